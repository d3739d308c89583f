
/- sha.Put, sha.New, sha.Right. -/
import Derived.Test.YtcfncbbdlbdbnaaDoorBlocks
namespace Go.Proofs.YtcfncbbdlbdbnaaDoor
open Go.RowKit

/-- a digest under way, as cells -/
abbrev hcells (s : St) (N : Int) (r : Value) : Array Value := #[wv s.a, wv s.b, wv s.c, wv s.d, wv s.e, wv s.f, wv s.g, wv s.h, .int .i64 N, r]
abbrev hv (s : St) (N : Int) (r : Value) : Value := .agg (hcells s N r)
def Z10 : Array Value := #[.int .u32 0, .int .u32 0, .int .u32 0, .int .u32 0, .int .u32 0, .int .u32 0, .int .u32 0, .int .u32 0, .int .i64 0, .slice none 0 0]
/-- a call's answer: a digest under way -/
def AnsH (W' : World) (e : Ending) (s : St) (N : Int) (l : List UInt8) : Prop := ∃ A c, e = .returned (hv s N (.slice A l.length c)) ∧ l.length ≤ c ∧ c ≤ 9223372036854775807 ∧ Rd W' W'.heap.size A l
theorem cells10 {w : World} {g : Nat} {s : St} {N : Int} {r : Value} {t : TypeId} {fr : Nat × Nat} (h : w.heap[g]? = some (.cells (hcells s N r) t fr)) :
    w.cell? ⟨g, 0, none⟩ = some (wv s.a) ∧ w.cell? ⟨g, 1, none⟩ = some (wv s.b) ∧ w.cell? ⟨g, 2, none⟩ = some (wv s.c) ∧ w.cell? ⟨g, 3, none⟩ = some (wv s.d) ∧ w.cell? ⟨g, 4, none⟩ = some (wv s.e) ∧ w.cell? ⟨g, 5, none⟩ = some (wv s.f) ∧ w.cell? ⟨g, 6, none⟩ = some (wv s.g) ∧ w.cell? ⟨g, 7, none⟩ = some (wv s.h) ∧ w.cell? ⟨g, 8, none⟩ = some (.int .i64 N) ∧ w.cell? ⟨g, 9, none⟩ = some r :=
  have hcl : ∀ j v, (hcells s N r)[j]? = some v → w.cell? ⟨g, j, none⟩ = some v := fun _j _v h' => (cell_of_row _ _ _ _ _ _ h).trans h'
  ⟨hcl 0 _ rfl, hcl 1 _ rfl, hcl 2 _ rfl, hcl 3 _ rfl, hcl 4 _ rfl, hcl 5 _ rfl, hcl 6 _ rfl, hcl 7 _ rfl, hcl 8 _ rfl, hcl 9 _ rfl⟩

/-- ten stores, one behind the other -/
def setH (w : World) (g : Nat) (s : St) (N : Int) (r : Value) : World := ((((((((((w.setCell ⟨g, 0, none⟩ (wv s.a)).setCell ⟨g, 1, none⟩ (wv s.b)).setCell ⟨g, 2, none⟩ (wv s.c)).setCell ⟨g, 3, none⟩ (wv s.d)).setCell ⟨g, 4, none⟩ (wv s.e)).setCell ⟨g, 5, none⟩ (wv s.f)).setCell ⟨g, 6, none⟩ (wv s.g)).setCell ⟨g, 7, none⟩ (wv s.h)).setCell ⟨g, 8, none⟩ (.int .i64 N)).setCell ⟨g, 9, none⟩ r)
theorem setH_same {w : World} {g : Nat} {t : TypeId} {s0 : St} {N0 : Int} {r0 : Value} (s : St) (N : Int) (r : Value) (h : w.heap[g]? = some (.cells (hcells s0 N0 r0) t (0, 0))) : (setH w g s N r).heap[g]? = some (.cells (hcells s N r) t (0, 0)) := by
  have h0 := heap_setCell_same w g 0 _ t (wv s.a) h
  have h1 := heap_setCell_same _ g 1 _ t (wv s.b) h0
  have h2 := heap_setCell_same _ g 2 _ t (wv s.c) h1
  have h3 := heap_setCell_same _ g 3 _ t (wv s.d) h2
  have h4 := heap_setCell_same _ g 4 _ t (wv s.e) h3
  have h5 := heap_setCell_same _ g 5 _ t (wv s.f) h4
  have h6 := heap_setCell_same _ g 6 _ t (wv s.g) h5
  have h7 := heap_setCell_same _ g 7 _ t (wv s.h) h6
  have h8 := heap_setCell_same _ g 8 _ t (.int .i64 N) h7
  have h9 := heap_setCell_same _ g 9 _ t r h8
  unfold setH
  rw [h9]
  simp only [List.setIfInBounds_toArray, List.set_cons_zero, List.set_cons_succ, hcells]
theorem setH_other {w : World} {g k : Nat} (s : St) (N : Int) (r : Value) (h : k ≠ g) : (setH w g s N r).heap[k]? = w.heap[k]? := by
  unfold setH
  rw [heap_setCell_other _ _ _ _ h, heap_setCell_other _ _ _ _ h, heap_setCell_other _ _ _ _ h, heap_setCell_other _ _ _ _ h, heap_setCell_other _ _ _ _ h, heap_setCell_other _ _ _ _ h, heap_setCell_other _ _ _ _ h, heap_setCell_other _ _ _ _ h, heap_setCell_other _ _ _ _ h, heap_setCell_other _ _ _ _ h]
theorem Below.setH {B : Nat} {a w : World} (h : Below B a w) {g : Nat} (hg : B ≤ g) (s : St) (N : Int) (r : Value) : Below B a (setH w g s N r) :=
  ((((((((((h.setCell (p := ⟨g, 0, none⟩) hg _).setCell (p := ⟨g, 1, none⟩) hg _).setCell (p := ⟨g, 2, none⟩) hg _).setCell (p := ⟨g, 3, none⟩) hg _).setCell (p := ⟨g, 4, none⟩) hg _).setCell (p := ⟨g, 5, none⟩) hg _).setCell (p := ⟨g, 6, none⟩) hg _).setCell (p := ⟨g, 7, none⟩) hg _).setCell (p := ⟨g, 8, none⟩) hg _).setCell (p := ⟨g, 9, none⟩) hg _)
theorem Rd.setH {w : World} {A : Option Addr} {l : List UInt8} {g : Nat} (h : Rd w w.heap.size A l) (s : St) (N : Int) (r : Value) (hne : ∀ p, A = some p → p.block ≠ g) : Rd (setH w g s N r) (setH w g s N r).heap.size A l := by
  intro h0
  obtain ⟨b, o, e, hb, hc⟩ := h h0
  have hbg : b ≠ g := hne _ e
  have hs : (Go.Proofs.YtcfncbbdlbdbnaaDoor.setH w g s N r).heap[b]? = w.heap[b]? := setH_other s N r hbg
  refine ⟨b, o, e, ?_, fun j hj => ?_⟩
  · have hsz := (Below.setH (Below.refl 0 w) (Nat.zero_le g) s N r).size
    omega
  · rw [World.cell?_of_block (w := w) (a := ⟨b, o + j, none⟩) hs]
    exact hc j hj
theorem far10 {w : World} {g b j : Nat} {x0 x1 x2 x3 x4 x5 x6 x7 x8 x9 u : Value} (h : w.cell? ⟨b, j, none⟩ = some u) (hb : b ≠ g) :
    ((((((((((w.setCell ⟨g, 0, none⟩ x0).setCell ⟨g, 1, none⟩ x1).setCell ⟨g, 2, none⟩ x2).setCell ⟨g, 3, none⟩ x3).setCell ⟨g, 4, none⟩ x4).setCell ⟨g, 5, none⟩ x5).setCell ⟨g, 6, none⟩ x6).setCell ⟨g, 7, none⟩ x7).setCell ⟨g, 8, none⟩ x8).setCell ⟨g, 9, none⟩ x9).cell? ⟨b, j, none⟩ = some u := by
  rw [far hb, far hb, far hb, far hb, far hb, far hb, far hb, far hb, far hb, far hb]
  exact h
theorem frozen10 {w : World} {g : Nat} {t : TypeId} {c : Array Value} (h : w.heap[g]? = some (.cells c t (0, 0))) :
    w.frozen? ⟨g, 0, none⟩ = false ∧ w.frozen? ⟨g, 1, none⟩ = false ∧ w.frozen? ⟨g, 2, none⟩ = false ∧ w.frozen? ⟨g, 3, none⟩ = false ∧ w.frozen? ⟨g, 4, none⟩ = false ∧ w.frozen? ⟨g, 5, none⟩ = false ∧ w.frozen? ⟨g, 6, none⟩ = false ∧ w.frozen? ⟨g, 7, none⟩ = false ∧ w.frozen? ⟨g, 8, none⟩ = false ∧ w.frozen? ⟨g, 9, none⟩ = false :=
  have hf := fun j => frozen_of_row w g j _ _ h
  ⟨hf 0, hf 1, hf 2, hf 3, hf 4, hf 5, hf 6, hf 7, hf 8, hf 9⟩
def S00 : St := ⟨0, 0, 0, 0, 0, 0, 0, 0⟩
/-- what is answered is a digest under way in a block of its own -/
theorem retH {fn : Func} {p : Tmp} (h : fn.results = #[.cell p 78]) (tmps : Array Value) (W : World) (g : Nat) (s : St) (N : Int) (r : Value) (hp : tmps.getD p undef = .pointer (some ⟨g, 0, none⟩)) (hg : W.heap[g]? = some (.cells (hcells s N r) 78 (0, 0))) :
    (results fn tmps).run Tryd.prog W = .ok (hv s N r) W :=
  results_cell_row h tmps W g 78 (hcells s N r) (0, 0) _ hp hg Tryd.underlying78 rfl (by kernel_rfl)

set_option maxRecDepth 100000 in
theorem new_any (w : World) : Calls Tryd.prog 50 #[] w fun e w' => e = .returned (hv h0 0 (.slice none 0 0)) ∧ Below w.heap.size w w' := by
  go_enter Tryd.func50, Tryd.ntmps50
  go_wp2
  (try simp only [Exit.inBlock, Exit.then])
  refine bodyPost_ret (retH rfl _ _ w.heap.size h0 0 (.slice none 0 0) rfl (heap_alloc_new w _)) rfl ?_
  exact ⟨rfl, (Below.refl _ _).alloc (Nat.le_refl _) _⟩

set_option maxRecDepth 100000 in
set_option maxHeartbeats 2000000 in
theorem put_full (s : St) (N : Nat) (A C : Option Addr) (l m : List UInt8) (c d : Nat) (w : World) (hl : l.length + m.length ≤ 1000000) (_hlc : l.length ≤ c) (_hmd : m.length ≤ d) (hr : Rd w w.heap.size A l) (_hN : N ≤ 1125899906842624) (hfull : 1125899906842624 < N + m.length) :
    Calls Tryd.prog 49 #[hv s N (.slice A l.length c), .slice C m.length d] w fun e w' => AnsH w' e s N l ∧ Below w.heap.size w w' := by
  have HR := Lib.hid hr
  obtain ⟨n, hn⟩ : ∃ n, n = l.length := ⟨_, rfl⟩
  obtain ⟨k, hk⟩ : ∃ k, k = m.length := ⟨_, rfl⟩
  have HN := Lib.hid hn
  have HK := Lib.hid hk
  have HO := Lib.hid (fun W h => own_any A l c W (by omega) h)
  rw [← hk] at hl hfull _hmd ⊢
  rw [← hn] at hl _hlc HO ⊢
  clear hn hk hr
  have hlt : 1125899906842624 - (k : Int) < (N : Int) := by omega
  go_enter Tryd.func49, Tryd.ntmps49
  go_wp2
  obtain ⟨q1, q2, q3, q4⟩ := alloc2 w (.cells (hcells s N (.slice A n c)) 78) (.cells (hcells S00 0 (.slice none 0 0)) 78)
  change Code.wp _ _ _ _ ((w.alloc (.cells (hcells s N (.slice A n c)) 78)).alloc (.cells (hcells S00 0 (.slice none 0 0)) 78))
  generalize (w.alloc (.cells (hcells s N (.slice A n c)) 78)).alloc (.cells (hcells S00 0 (.slice none 0 0)) 78) = w0 at *
  obtain ⟨e0, e1, e2, e3, e4, e5, e6, e7, e8, e9⟩ := cells10 (w := w0.drew) q1
  have hg0 : w.heap.size < w0.heap.size := by omega
  have hg1 : w.heap.size + 1 < w0.heap.size := by omega
  have Q1 := Lib.hid q1
  have Q2 := Lib.hid q2
  have Q4 := Lib.hid q4
  have HR0 := Lib.hid ((HR.out.below q4 (Nat.le_refl _)).more q4.size)
  clear q1 q2 q3 q4 HR
  go_region_held3 (fun w' => w'.cell? ⟨w.heap.size, 0, none⟩ = some (wv s.a) ∧ w'.cell? ⟨w.heap.size, 1, none⟩ = some (wv s.b) ∧ w'.cell? ⟨w.heap.size, 2, none⟩ = some (wv s.c) ∧ w'.cell? ⟨w.heap.size, 3, none⟩ = some (wv s.d) ∧ w'.cell? ⟨w.heap.size, 4, none⟩ = some (wv s.e) ∧ w'.cell? ⟨w.heap.size, 5, none⟩ = some (wv s.f) ∧ w'.cell? ⟨w.heap.size, 6, none⟩ = some (wv s.g) ∧ w'.cell? ⟨w.heap.size, 7, none⟩ = some (wv s.h) ∧ w'.cell? ⟨w.heap.size, 8, none⟩ = some (.int .i64 (N : Int)) ∧ w'.cell? ⟨w.heap.size, 9, none⟩ = some (.slice A n c))
    (first
     | ((try dsimp only); go_split_ands; refine ⟨?_, ?_, ?_, ?_, ?_, ?_, ?_, ?_, ?_, ?_⟩ <;> with_reducible assumption)
     | ((try dsimp only); go_split_ands; refine ⟨?_, ?_, ?_, ?_, ?_, ?_, ?_, ?_, ?_, ?_⟩ <;> (with_reducible refine far10 ?_ ?_) <;> (first | (with_reducible assumption) | omega)))
    (first
    | (go_at_call 57; refine (HO.out _ ?_).mono ?_; (exact HR0.out); rintro e w1 ⟨⟨A1, c1, rfl, hc1, hc2, hr1, hfr⟩, hb1⟩; have HR1 := Lib.hid hr1; have HFR := Lib.hid hfr; have BB1 := Lib.hid (bel_call (B := w.heap.size) (w := w) Q4.out.drew hb1 (by exact Nat.le_of_lt hg0)); have hq1 := old_below (g := w.heap.size) (by exact Q1.out) hb1 (Nat.le_refl _); obtain ⟨v0, v1, v2, v3, v4, v5, v6, v7, v8, v9⟩ := cells10 hq1; have hq2 := old_below (g := w.heap.size + 1) (by exact Q2.out) hb1 (Nat.le_refl _); obtain ⟨z0, z1, z2, z3, z4, z5, z6, z7, z8, z9⟩ := cells10 hq2; obtain ⟨y0, y1, y2, y3, y4, y5, y6, y7, y8, y9⟩ := frozen10 hq2; have QQ2 := Lib.hid hq2; clear hb1 hq1 hq2 hr1 hfr))
  change Exit.then _ _ _ _ (setH w1 (w.heap.size + 1) s N (.slice A1 n c1))
  have g1 := setH_same s N (.slice A1 n c1) QQ2.out
  have g3 := Below.setH BB1.out (Nat.le_succ w.heap.size) s N (.slice A1 n c1)
  have g5 := HR1.out.setH s N (.slice A1 n c1) (show ∀ p, A1 = some p → p.block ≠ w.heap.size + 1 from fun p hp => by
    have := (HFR.out p hp).1
    have h2 : w0.drew.heap.size = w0.heap.size := rfl
    omega)
  generalize setH w1 (w.heap.size + 1) s N (.slice A1 n c1) = W3 at *
  have G1 := Lib.hid g1
  have G3 := Lib.hid g3
  have G5 := Lib.hid g5
  clear g1 g3 g5
  go_wp2_with fail
  (try simp only [Exit.inBlock, Exit.then])
  refine bodyPost_ret (retH rfl _ _ (w.heap.size + 1) s N (.slice A1 n c1) rfl G1.out) rfl ?_
  exact ⟨⟨A1, c1, by rw [← HN.out], by rw [← HN.out]; exact hc1, hc2, G5.out⟩, G3.out⟩
end Go.Proofs.YtcfncbbdlbdbnaaDoor
