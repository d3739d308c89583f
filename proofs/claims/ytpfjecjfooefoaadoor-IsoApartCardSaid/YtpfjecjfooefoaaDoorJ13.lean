
/- The document's answer: a field's form. -/
import Derived.Test.YtpfjecjfooefoaaDoorJ12
namespace Go.Proofs.YtpfjecjfooefoaaDoor
open Go.RowKit

/-! ### blocks that are made one behind the other -/
set_option maxRecDepth 100000 in
theorem allocs_old (gs : List Obj) : ∀ (W : World) (k : Nat), k < W.heap.size → (gs.foldl World.alloc W).heap[k]? = W.heap[k]? := by
  induction gs with
  | nil => intro W k _; rfl
  | cons g gs ih =>
    intro W k hk
    rw [List.foldl_cons, ih (W.alloc g) k (by rw [World.size_alloc]; omega)]
    exact heap_alloc_old W g hk
set_option maxRecDepth 100000 in
theorem allocs_get (gs : List Obj) : ∀ (W : World) (i : Nat) (o : Obj), gs[i]? = some o → (gs.foldl World.alloc W).heap[W.heap.size + i]? = some o := by
  induction gs with
  | nil => intro W i o h; simp at h
  | cons g gs ih =>
    intro W i o h
    rw [List.foldl_cons]
    cases i with
    | zero =>
      rw [Nat.add_zero, allocs_old gs (W.alloc g) _ (by rw [World.size_alloc]; omega), heap_alloc_new]
      simpa using h
    | succ i =>
      have h1 := ih (W.alloc g) i o (by simpa using h)
      rw [World.size_alloc] at h1
      rw [show W.heap.size + (i + 1) = W.heap.size + 1 + i by omega]
      exact h1
set_option maxRecDepth 100000 in
theorem allocs_size (gs : List Obj) : ∀ (W : World), (gs.foldl World.alloc W).heap.size = W.heap.size + gs.length := by
  induction gs with
  | nil => intro W; rfl
  | cons g gs ih => intro W; rw [List.foldl_cons, ih, World.size_alloc, List.length_cons]; omega
set_option maxRecDepth 100000 in
theorem allocs_below (gs : List Obj) : ∀ (B : Nat) (w0 W : World), Below B w0 W → B ≤ W.heap.size → Below B w0 (gs.foldl World.alloc W) := by
  induction gs with
  | nil => intro B w0 W h _; exact h
  | cons g gs ih => intro B w0 W h hB; exact ih B w0 (W.alloc g) (h.alloc hB g) (by rw [World.size_alloc]; omega)

/-- row i, as it lies in memory -/
def rowL (i : Nat) : List Int := match rowsF[i]? with
  | some (k, n, l) => (k : Int) :: (n : Int) :: l
  | none => []
def rowO (i : Nat) : Obj := .cells ((rowL i).map (fun x => Value.int .i64 x)).toArray 3
def outV (s i : Nat) : Value := .slice (some ⟨s + 1 + i, 0, none⟩) (rowL i).length (rowL i).length
def outO (s : Nat) : Obj := .cells ((List.range 23).map (outV s)).toArray 65
def objs5 (s : Nat) : List Obj := .cells #[.int .i64 0, .int .i64 0] 95 :: ((List.range 23).map rowO ++ [outO s])
set_option maxRecDepth 100000 in
theorem rowL_len (i : Nat) (h : i < 23) : 3 ≤ (rowL i).length ∧ (rowL i).length ≤ 6 := by
  have hall : (List.range 23).all (fun i => decide (3 ≤ (rowL i).length ∧ (rowL i).length ≤ 6)) = true := by decide
  exact of_decide_eq_true (List.all_eq_true.1 hall i (List.mem_range.2 h))
set_option maxRecDepth 100000 in
theorem findF_hit (no : Int) : ∀ (r : List (Nat × Nat × List Int)) (i : Nat) (h : i < r.length), (∀ j (hj : j < i), ¬ no ∈ (r[j]'(by omega)).2.2) → no ∈ r[i].2.2 → findF no r = (r[i].1, r[i].2.1)
  | [], i, h, _, _ => absurd h (by simp)
  | (k, n, l) :: r, 0, _, _, h2 => by
    unfold findF
    rw [if_pos (by simpa using h2)]
    rfl
  | (k, n, l) :: r, i + 1, h, h1, h2 => by
    unfold findF
    rw [if_neg (show ¬ no ∈ l from h1 0 (by omega))]
    exact findF_hit no r i (by simpa using h) (fun j hj => h1 (j + 1) (by omega)) h2
set_option maxRecDepth 100000 in
theorem findF_miss (no : Int) : ∀ (r : List (Nat × Nat × List Int)), (∀ j (hj : j < r.length), ¬ no ∈ (r[j]).2.2) → findF no r = (0, 0)
  | [], _ => rfl
  | (k, n, l) :: r, h1 => by
    unfold findF
    rw [if_neg (show ¬ no ∈ l from h1 0 (by simp))]
    exact findF_miss no r (fun j hj => h1 (j + 1) (by simpa using hj))
set_option maxRecDepth 100000 in
/-- what row i tells -/
theorem row_parts (i : Nat) (h : i < 23) : ∃ (k n : Nat) (l : List Int), rowL i = (k : Int) :: (n : Int) :: l ∧ 1 ≤ k ∧ l.length + 2 = (rowL i).length ∧ ∀ no : Int, ((∀ j, j < i → ¬ no ∈ (rowL j).drop 2) → (no ∈ l → fk no = k ∧ fl no = n)) := by
  have hr : rowsF.length = 23 := rfl
  have hj : ∀ j (hj : j < rowsF.length), rowL j = ((rowsF[j].1 : Nat) : Int) :: ((rowsF[j].2.1 : Nat) : Int) :: rowsF[j].2.2 := by
    intro j hj
    unfold rowL
    rw [List.getElem?_eq_getElem hj]
  have h' : i < rowsF.length := by rw [hr]; exact h
  have e := hj i h'
  have hk : rowsF.all (fun x => decide (1 ≤ x.1)) = true := by decide
  refine ⟨_, _, _, e, of_decide_eq_true (List.all_eq_true.1 hk _ (List.getElem_mem h')), by rw [e]; simp, fun no h1 h2 => ?_⟩
  have h3 := findF_hit no rowsF i h' (fun j hji hm => h1 j hji (by rw [hj j (by omega)]; exact hm)) h2
  unfold fk fl
  rw [h3]
  exact ⟨rfl, rfl⟩
set_option maxRecDepth 100000 in
theorem rows_miss (no : Int) (h : ∀ j, j < 23 → ¬ no ∈ (rowL j).drop 2) : fk no = 0 ∧ fl no = 0 := by
  have hr : rowsF.length = 23 := rfl
  have h3 := findF_miss no rowsF (fun j hj hm => h j (by omega) (by unfold rowL; rw [List.getElem?_eq_getElem hj]; exact hm))
  unfold fk fl
  rw [h3]
  exact ⟨rfl, rfl⟩
set_option maxRecDepth 100000 in
theorem outs_get (s i : Nat) (h : i < 23) : ((List.range 23).map (outV s)).toArray[i]? = some (outV s i) := by
  simp [h]
set_option maxRecDepth 100000 in
/-- a form in a block of its own, and a value -/
theorem ret2f {fn : Func} {p q : Tmp} (h : fn.results = #[.cell p 95, .tmp q]) (tmps : Array Value) (W : World) (g : Nat) (x y v : Value) (hp : tmps.getD p undef = .pointer (some ⟨g, 0, none⟩)) (hq : tmps.getD q undef = v) (hg : W.heap[g]? = some (.cells #[x, y] 95 (0, 0))) :
    (results fn tmps).run Tryd.prog W = .ok (.tuple #[.agg #[x, y], v]) W := by
  have hp' : tmps[p]?.getD undef = .pointer (some ⟨g, 0, none⟩) := by simpa using hp
  have hq' : tmps[q]?.getD undef = v := by simpa using hq
  simp [results, h, hp', hq', asAddr, run_loadVar_row W g 95 95 #[x, y] (0, 0) _ hg Tryd.underlying95 rfl (by kernel_rfl)]
set_option maxRecDepth 100000 in
theorem cells2 {w : World} {g : Nat} {x y : Value} {t : TypeId} {fr : Nat × Nat} (h : w.heap[g]? = some (.cells #[x, y] t fr)) : w.cell? ⟨g, 0, none⟩ = some x ∧ w.cell? ⟨g, 1, none⟩ = some y :=
  have hcl : ∀ j v, (#[x, y] : Array Value)[j]? = some v → w.cell? ⟨g, j, none⟩ = some v := fun _j _v h' => (cell_of_row _ _ _ _ _ _ h).trans h'
  ⟨hcl 0 _ rfl, hcl 1 _ rfl⟩
set_option maxRecDepth 100000 in
theorem frozen2 {w : World} {g : Nat} {t : TypeId} {c : Array Value} (h : w.heap[g]? = some (.cells c t (0, 0))) : w.frozen? ⟨g, 0, none⟩ = false ∧ w.frozen? ⟨g, 1, none⟩ = false :=
  have hf := fun j => frozen_of_row w g j _ _ h
  ⟨hf 0, hf 1⟩
def set2 (w : World) (g : Nat) (x y : Value) : World := (w.setCell ⟨g, 0, none⟩ x).setCell ⟨g, 1, none⟩ y
set_option maxRecDepth 100000 in
theorem set2_same {w : World} {g : Nat} {t : TypeId} {a b : Value} (x y : Value) (h : w.heap[g]? = some (.cells #[a, b] t (0, 0))) : (set2 w g x y).heap[g]? = some (.cells #[x, y] t (0, 0)) := by
  have h0 := heap_setCell_same w g 0 _ t x h
  have h1 := heap_setCell_same _ g 1 _ t y h0
  unfold set2
  rw [h1]
  simp only [List.setIfInBounds_toArray, List.set_cons_zero, List.set_cons_succ]
set_option maxRecDepth 100000 in
theorem Below.set2 {B : Nat} {a w : World} (h : Below B a w) {g : Nat} (hg : B ≤ g) (x y : Value) : Below B a (set2 w g x y) :=
  (h.setCell (p := ⟨g, 0, none⟩) hg _).setCell (p := ⟨g, 1, none⟩) hg _

set_option maxRecDepth 100000 in
set_option maxHeartbeats 8000000 in
theorem refOf_any (no : Int) (W : World) :
    Calls Tryd.prog 59 #[.int .i64 no] W fun e W' => e = .returned (.tuple #[.agg #[.int .i64 (fk no : Int), .int .i64 (fl no : Int)], .bool (decide (fk no ≠ 0))]) ∧ Below W.heap.size W W' := by
  obtain ⟨FK, hFK⟩ : ∃ x, x = fk no := ⟨_, rfl⟩
  obtain ⟨FL, hFL⟩ : ∃ x, x = fl no := ⟨_, rfl⟩
  obtain ⟨FB, hFB⟩ : ∃ x, x = decide (fk no ≠ 0) := ⟨_, rfl⟩
  rw [← hFK, ← hFL]
  rw [show decide (FK ≠ 0) = FB by rw [hFB, hFK]]
  have HFK := Lib.hid hFK
  have HFL := Lib.hid hFL
  have HFB := Lib.hid hFB
  clear hFK hFL hFB
  obtain ⟨V, hV⟩ : ∃ V, V = ((((((((((((((((((((((((W.alloc (.cells #[.int .i64 0, .int .i64 0] 95)).alloc (.cells #[.int .i64 1, .int .i64 2, .int .i64 25] 3)).alloc (.cells #[.int .i64 1, .int .i64 3, .int .i64 22, .int .i64 49, .int .i64 70] 3)).alloc (.cells #[.int .i64 1, .int .i64 4, .int .i64 13, .int .i64 14, .int .i64 18] 3)).alloc (.cells #[.int .i64 1, .int .i64 6, .int .i64 3, .int .i64 11, .int .i64 12, .int .i64 15] 3)).alloc (.cells #[.int .i64 1, .int .i64 10, .int .i64 7] 3)).alloc (.cells #[.int .i64 1, .int .i64 12, .int .i64 4] 3)).alloc (.cells #[.int .i64 1, .int .i64 16, .int .i64 53] 3)).alloc (.cells #[.int .i64 1, .int .i64 42, .int .i64 90] 3)).alloc (.cells #[.int .i64 2, .int .i64 19, .int .i64 2] 3)).alloc (.cells #[.int .i64 2, .int .i64 11, .int .i64 32, .int .i64 100] 3)).alloc (.cells #[.int .i64 3, .int .i64 12, .int .i64 37] 3)).alloc (.cells #[.int .i64 3, .int .i64 6, .int .i64 38] 3)).alloc (.cells #[.int .i64 3, .int .i64 2, .int .i64 39] 3)).alloc (.cells #[.int .i64 3, .int .i64 8, .int .i64 41] 3)).alloc (.cells #[.int .i64 3, .int .i64 15, .int .i64 42] 3)).alloc (.cells #[.int .i64 3, .int .i64 42, .int .i64 95] 3)).alloc (.cells #[.int .i64 4, .int .i64 37, .int .i64 35] 3)).alloc (.cells #[.int .i64 4, .int .i64 28, .int .i64 102] 3)).alloc (.cells #[.int .i64 5, .int .i64 400, .int .i64 48] 3)).alloc (.cells #[.int .i64 5, .int .i64 120, .int .i64 54] 3)).alloc (.cells #[.int .i64 6, .int .i64 8, .int .i64 52, .int .i64 64, .int .i64 96, .int .i64 128] 3)).alloc (.cells #[.int .i64 7, .int .i64 255, .int .i64 55] 3)).alloc (.cells #[.int .i64 7, .int .i64 400, .int .i64 127] 3)).alloc (.cells #[.slice (some ⟨W.heap.size + 1, 0, none⟩) 3 3, .slice (some ⟨W.heap.size + 1 + 1, 0, none⟩) 5 5, .slice (some ⟨W.heap.size + 1 + 1 + 1, 0, none⟩) 5 5, .slice (some ⟨W.heap.size + 1 + 1 + 1 + 1, 0, none⟩) 6 6, .slice (some ⟨W.heap.size + 1 + 1 + 1 + 1 + 1, 0, none⟩) 3 3, .slice (some ⟨W.heap.size + 1 + 1 + 1 + 1 + 1 + 1, 0, none⟩) 3 3, .slice (some ⟨W.heap.size + 1 + 1 + 1 + 1 + 1 + 1 + 1, 0, none⟩) 3 3, .slice (some ⟨W.heap.size + 1 + 1 + 1 + 1 + 1 + 1 + 1 + 1, 0, none⟩) 3 3, .slice (some ⟨W.heap.size + 1 + 1 + 1 + 1 + 1 + 1 + 1 + 1 + 1, 0, none⟩) 3 3, .slice (some ⟨W.heap.size + 1 + 1 + 1 + 1 + 1 + 1 + 1 + 1 + 1 + 1, 0, none⟩) 4 4, .slice (some ⟨W.heap.size + 1 + 1 + 1 + 1 + 1 + 1 + 1 + 1 + 1 + 1 + 1, 0, none⟩) 3 3, .slice (some ⟨W.heap.size + 1 + 1 + 1 + 1 + 1 + 1 + 1 + 1 + 1 + 1 + 1 + 1, 0, none⟩) 3 3, .slice (some ⟨W.heap.size + 1 + 1 + 1 + 1 + 1 + 1 + 1 + 1 + 1 + 1 + 1 + 1 + 1, 0, none⟩) 3 3, .slice (some ⟨W.heap.size + 1 + 1 + 1 + 1 + 1 + 1 + 1 + 1 + 1 + 1 + 1 + 1 + 1 + 1, 0, none⟩) 3 3, .slice (some ⟨W.heap.size + 1 + 1 + 1 + 1 + 1 + 1 + 1 + 1 + 1 + 1 + 1 + 1 + 1 + 1 + 1, 0, none⟩) 3 3, .slice (some ⟨W.heap.size + 1 + 1 + 1 + 1 + 1 + 1 + 1 + 1 + 1 + 1 + 1 + 1 + 1 + 1 + 1 + 1, 0, none⟩) 3 3, .slice (some ⟨W.heap.size + 1 + 1 + 1 + 1 + 1 + 1 + 1 + 1 + 1 + 1 + 1 + 1 + 1 + 1 + 1 + 1 + 1, 0, none⟩) 3 3, .slice (some ⟨W.heap.size + 1 + 1 + 1 + 1 + 1 + 1 + 1 + 1 + 1 + 1 + 1 + 1 + 1 + 1 + 1 + 1 + 1 + 1, 0, none⟩) 3 3, .slice (some ⟨W.heap.size + 1 + 1 + 1 + 1 + 1 + 1 + 1 + 1 + 1 + 1 + 1 + 1 + 1 + 1 + 1 + 1 + 1 + 1 + 1, 0, none⟩) 3 3, .slice (some ⟨W.heap.size + 1 + 1 + 1 + 1 + 1 + 1 + 1 + 1 + 1 + 1 + 1 + 1 + 1 + 1 + 1 + 1 + 1 + 1 + 1 + 1, 0, none⟩) 3 3, .slice (some ⟨W.heap.size + 1 + 1 + 1 + 1 + 1 + 1 + 1 + 1 + 1 + 1 + 1 + 1 + 1 + 1 + 1 + 1 + 1 + 1 + 1 + 1 + 1, 0, none⟩) 6 6, .slice (some ⟨W.heap.size + 1 + 1 + 1 + 1 + 1 + 1 + 1 + 1 + 1 + 1 + 1 + 1 + 1 + 1 + 1 + 1 + 1 + 1 + 1 + 1 + 1 + 1, 0, none⟩) 3 3, .slice (some ⟨W.heap.size + 1 + 1 + 1 + 1 + 1 + 1 + 1 + 1 + 1 + 1 + 1 + 1 + 1 + 1 + 1 + 1 + 1 + 1 + 1 + 1 + 1 + 1 + 1, 0, none⟩) 3 3] 65) := ⟨_, rfl⟩
  have hV2 : V = (objs5 W.heap.size).foldl World.alloc W := hV.trans (by rfl)
  have HV := Lib.hid hV
  obtain ⟨gO, hgO⟩ : ∃ g, g = W.heap.size + 1 + 1 + 1 + 1 + 1 + 1 + 1 + 1 + 1 + 1 + 1 + 1 + 1 + 1 + 1 + 1 + 1 + 1 + 1 + 1 + 1 + 1 + 1 + 1 := ⟨_, rfl⟩
  have hlen : (objs5 W.heap.size).length = 23 + 2 := by rfl
  have HG := Lib.hid hgO
  have HB := Lib.hid (show Below W.heap.size W V by rw [hV2]; exact allocs_below _ _ _ _ (Below.refl _ _) (Nat.le_refl _))
  have HF := Lib.hid (show V.heap[W.heap.size]? = some (.cells #[.int .i64 0, .int .i64 0] 95 (0, 0)) by
    rw [hV2]; exact allocs_get (objs5 W.heap.size) W 0 _ rfl)
  have HO := Lib.hid (fun (i : Nat) (h : i < 23) => (show V.cell? ⟨gO, i, none⟩ = some (outV W.heap.size i) from by
    have h1 : V.heap[gO]? = some (outO W.heap.size) := by
      rw [hV2, show gO = W.heap.size + (23 + 1) by omega]
      exact allocs_get (objs5 W.heap.size) W (23 + 1) _ rfl
    rw [cell_of_row V gO i _ _ _ h1]
    exact outs_get _ _ h))
  have HR := Lib.hid (fun (i : Nat) (h : i < 23) (j : Nat) (hj : j < (rowL i).length) => (show V.cell? ⟨W.heap.size + 1 + i, j, none⟩ = some (.int .i64 (rowL i)[j]) from by
    have h1 : V.heap[W.heap.size + 1 + i]? = some (rowO i) := by
      rw [hV2, show W.heap.size + 1 + i = W.heap.size + (i + 1) by omega]
      refine allocs_get (objs5 W.heap.size) W (i + 1) _ ?_
      unfold objs5
      rw [List.getElem?_cons_succ, List.getElem?_append_left (by simpa using h)]
      simp [h]
    rw [cell_of_row V _ j _ _ _ h1]
    simp [hj]))
  clear hV hV2 hlen
  go_enter Tryd.func59, Tryd.ntmps59
  go_wp2
  rw [← HV.out, ← HG.out]
  clear HV
  obtain ⟨g0, hg0⟩ : ∃ g, g = W.heap.size := ⟨_, rfl⟩
  clear HG hgO
  go_loop [5] (fun i => ∃ k : Nat, k ≤ 23 ∧ i = .int .i64 k ∧ Hid (∀ j, j < k → ¬ no ∈ (rowL j).drop 2)) (fun i => 23 - (intOf i).toNat)
  case atStart => exact ⟨0, Nat.zero_le _, rfl, Lib.hid (fun j hj => absurd hj (by omega))⟩
  case round =>
    obtain ⟨i, hi, rfl, hall⟩ := hrel
    by_cases hlt : i < 23
    · obtain ⟨k, n, l, e1, hk1, e2, hfind⟩ := row_parts i hlt
      have hO := HO.out i hlt
      have hlen := rowL_len i hlt
      obtain ⟨m, hm⟩ : ∃ m, m = (rowL i).length := ⟨_, rfl⟩
      obtain ⟨q, hq⟩ : ∃ q, q = W.heap.size + 1 + i := ⟨_, rfl⟩
      unfold outV at hO
      rw [← hm, ← hq] at hO
      have hr0 := HR.out i hlt 0 (by omega)
      have hr1 := HR.out i hlt 1 (by omega)
      rw [← hq] at hr0 hr1
      have hRl : Ri5 V q 2 l := by
        intro j hj
        have h3 := HR.out i hlt (2 + j) (by rw [← hm]; omega)
        rw [← hq] at h3
        rw [h3]
        have h4 : ∀ (L : List Int) (eL : L = (k : Int) :: (n : Int) :: l) (h : 2 + j < L.length), L[2 + j] = l[j] := by
          rintro L rfl h
          simp only [Nat.add_comm 2 j]
          rfl
        rw [h4 _ e1]
      simp only [e1, List.getElem_cons_zero, List.getElem_cons_succ] at hr0 hr1
      have CI := Lib.hid (refIn_any q 2 (m - 2) (m - 2) l no V (by omega) (Nat.le_refl _) (by omega) hRl)
      have HRL := Lib.hid hRl
      have hii : (i : Int) < 23 := by omega
      have hm3 : (2 : Int) ≤ (m : Int) := by omega
      have hm2 : ¬ m = 2 := by omega
      have hdrop : (rowL i).drop 2 = l := by rw [e1]; rfl
      have HD := Lib.hid hdrop
      have HFI := Lib.hid (hfind no hall.out)
      clear e1 hlen hm hq hRl hdrop hfind e2
      obtain ⟨f0, f1⟩ := cells2 HF.out
      obtain ⟨z0, z1⟩ := frozen2 HF.out
      by_cases hin : no ∈ l
      · rw [decide_eq_true hin] at CI
        obtain ⟨hfk, hfl⟩ := HFI.out hin
        have HK := Lib.hid hfk
        have HL := Lib.hid hfl
        have HK1 := Lib.hid hk1
        have HFF := HF
        clear HF HR HRL HO hin hfk hfl HFI HD hk1
        go_wp2_with fail
        refine CI.out.mono ?_
        rintro e w1 ⟨rfl, rfl⟩
        clear CI
        go_wp2_with fail
        go_region
        all_goals
          first
          | change Exit.then _ _ _ _ (set2 V W.heap.size (.int .i64 (k : Int)) (.int .i64 (n : Int)))
          | change Exit.then _ _ _ _ (set2 V.drew W.heap.size (.int .i64 (k : Int)) (.int .i64 (n : Int)))
          go_wp2_with fail
          (try simp only [Exit.inBlock, Exit.then])
          first
          | refine bodyPost_ret (ret2f rfl _ (set2 V W.heap.size (.int .i64 (k : Int)) (.int .i64 (n : Int))) W.heap.size _ _ _ rfl rfl (set2_same _ _ HFF.out)) rfl ?_
          | refine bodyPost_ret (ret2f rfl _ (set2 V.drew W.heap.size (.int .i64 (k : Int)) (.int .i64 (n : Int))) W.heap.size _ _ _ rfl rfl (set2_same _ _ HFF.out)) rfl ?_
          exact ⟨by rw [HFK.out, HFL.out, HFB.out, HK.out, HL.out, decide_eq_true (show k ≠ 0 by have := HK1.out; omega)]; rfl, by first | exact Below.set2 HB.out (Nat.le_refl _) _ _ | exact Below.set2 HB.out.drew (Nat.le_refl _) _ _⟩
      · rw [decide_eq_false hin] at CI
        have HX := Lib.hid (show ∀ j, j < i + 1 → ¬ no ∈ (rowL j).drop 2 from fun j hj => by
          by_cases e : j = i
          · rw [e, HD.out]; exact hin
          · exact hall.out j (by omega))
        clear hin HFI HD HRL hr0 hr1 f0 f1 z0 z1 hk1
        go_wp2_with fail
        refine CI.out.mono ?_
        rintro e w1 ⟨rfl, rfl⟩
        clear CI
        go_wp2
        go_round
        case rel => exact ⟨i + 1, by omega, by go_num, HX⟩
        case measure => simp [intOf]; omega
    · have hii : ¬ (i : Int) < 23 := by omega
      obtain ⟨hk, hn⟩ := rows_miss no (fun j hj => hall.out j (by omega))
      have HK := Lib.hid hk
      have HN := Lib.hid hn
      have HFF := HF
      obtain ⟨f0, f1⟩ := cells2 HF.out
      obtain ⟨z0, z1⟩ := frozen2 HF.out
      clear hk hn HR HO
      go_wp2
      refine bodyPost_ret (ret2f rfl _ (set2 V W.heap.size (.int .i64 0) (.int .i64 0)) W.heap.size _ _ _ rfl rfl (set2_same _ _ HFF.out)) rfl ?_
      exact ⟨by rw [HFK.out, HFL.out, HFB.out, HK.out, HN.out]; rfl, Below.set2 HB.out (Nat.le_refl _) _ _⟩
end Go.Proofs.YtpfjecjfooefoaaDoor
