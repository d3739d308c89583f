
/- sha.Block: the words behind a block. -/
import Derived.Test.YtcfncbbdlbdbnaaDoorSched
import Derived.Deep.RegionWith
import Derived.Deep.Cut
import Derived.Deep.CutRange
import Derived.Deep.DeepCutAuto
import Derived.Deep.RegionHeld3
namespace Go.Proofs.YtcfncbbdlbdbnaaDoor
open Go.RowKit

theorem Ks.alloc {w : World} (h : Ks w) (o : Obj) : Ks (w.alloc o) := h.below (Below.alloc (Below.refl w.heap.size w) (Nat.le_refl _) o) h.1
theorem Ks.drew {w : World} (h : Ks w) : Ks w.drew := h
theorem size_drew (w : World) : w.drew.heap.size = w.heap.size := rfl
theorem far {w : World} {p q : Addr} {v : Value} (h : q.block ≠ p.block) : (w.setCell p v).cell? q = w.cell? q := World.cell?_setCell_other _ _ _ _ (fun e => h (by rw [e]))
theorem alloc_far {w : World} {q : Addr} {o : Obj} (h : q.block < w.heap.size) : (w.alloc o).cell? q = w.cell? q := World.cell?_alloc_lt _ _ _ h
theorem cell_drew {w : World} {q : Addr} : w.drew.cell? q = w.cell? q := rfl
def Z8 : Array Value := #[.int .u32 0, .int .u32 0, .int .u32 0, .int .u32 0, .int .u32 0, .int .u32 0, .int .u32 0, .int .u32 0]
theorem alloc2 (w : World) (A B : Obj) : ((w.alloc A).alloc B).heap[w.heap.size]? = some A ∧ ((w.alloc A).alloc B).heap[w.heap.size + 1]? = some B ∧ ((w.alloc A).alloc B).heap.size = w.heap.size + 1 + 1 ∧ Below w.heap.size w ((w.alloc A).alloc B) := by
  have e1 : (w.alloc A).heap.size = w.heap.size + 1 := by rw [World.size_alloc]
  refine ⟨?_, ?_, by rw [World.size_alloc, e1], (((Below.refl _ _).alloc (Nat.le_refl _) _).alloc (by omega) _)⟩
  · rw [heap_alloc_old (h := by omega), heap_alloc_new]
  · rw [← e1, heap_alloc_new]
theorem bcell {W w1 : World} {B : Nat} (hb : Below B W w1) : (∀ b o, b < B → w1.cell? ⟨b, o, none⟩ = W.cell? ⟨b, o, none⟩) ∧ (∀ b o, b < B → w1.frozen? ⟨b, o, none⟩ = W.frozen? ⟨b, o, none⟩) :=
  ⟨fun b o h => hb.cell (p := ⟨b, o, none⟩) h, fun b o h => hb.frozen (p := ⟨b, o, none⟩) h⟩

def St.at (s : St) (j : Nat) : UInt32 := s.list.getD j 0
theorem row_of_st {w : World} {g : Nat} {t : TypeId} {s : St} (h : w.heap[g]? = some (.cells s.cells t (0, 0))) : w.rowIs g t 8 (fun j => wv (s.at j)) :=
  ⟨_, h, rfl, fun i hi => by
    match i, hi with
    | 0, _ => rfl | 1, _ => rfl | 2, _ => rfl | 3, _ => rfl | 4, _ => rfl | 5, _ => rfl | 6, _ => rfl | 7, _ => rfl
    | i + 8, hi => omega⟩
theorem st_of_row {w : World} {g : Nat} {t : TypeId} {s : St} (h : w.rowIs g t 8 (fun j => wv (s.at j))) : w.heap[g]? = some (.cells s.cells t (0, 0)) := by
  obtain ⟨c, h1, h2, h3⟩ := h
  have e : c = s.cells := by
    apply Array.ext_getElem?
    intro i
    by_cases hi : i < 8
    · rw [h3 i hi]
      match i, hi with
      | 0, _ => rfl | 1, _ => rfl | 2, _ => rfl | 3, _ => rfl | 4, _ => rfl | 5, _ => rfl | 6, _ => rfl | 7, _ => rfl
      | i + 8, hi => omega
    · rw [Array.getElem?_eq_none (by omega), Array.getElem?_eq_none (by simp [St.cells]; omega)]
  rw [h1, e]
theorem load8 {ops : Array Oper} {rest : List Oper} {o : Oper} {a : Act} {Q : Exit → Act → World → Prop} (W : World) (x : Operand) (g : Nat) (s : St)
    (hg : W.heap[g]? = some (.cells s.cells 76 (0, 0))) (hgd : o.guard = none) (ho : o.op = .load 76 x) (hx : a.eval x = .pointer (some ⟨g, 0, none⟩))
    (h : wpList Tryd.prog ops Q rest (a.put o.dst s.v) W) : wpList Tryd.prog ops Q (o :: rest) a W :=
  wpList_load_row hgd 76 x ho g hx 76 s.cells (0, 0) _ hg Tryd.underlying76 rfl (by kernel_rfl) h
/-- two results: a state in a block of its own, and a slot -/
theorem ret8_2 {fn : Func} {p q : Tmp} (h : fn.results = #[.cell p 76, .tmp q]) (tmps : Array Value) (W : World) (g : Nat) (s : St) (hp : tmps.getD p undef = .pointer (some ⟨g, 0, none⟩)) (hg : W.heap[g]? = some (.cells s.cells 76 (0, 0))) :
    (results fn tmps).run Tryd.prog W = .ok (.tuple #[s.v, tmps.getD q undef]) W := by
  have hp' : tmps[p]?.getD undef = .pointer (some ⟨g, 0, none⟩) := by simpa using hp
  have hl := run_loadVar_row (P := Tryd.prog) W g 76 76 s.cells (0, 0) _ hg Tryd.underlying76 rfl (by kernel_rfl)
  simp [results, h, hp', asAddr, hl]
theorem Ks.call {X w1 : World} (h : Ks X) (hb : Below X.heap.size X w1) : Ks w1 := h.below hb h.1
theorem bel_call {B : Nat} {w X w1 : World} (h : Below B w X) (hb : Below X.heap.size X w1) (hB : B ≤ X.heap.size) : Below B w w1 := h.trans (hb.mono hB)
theorem cells8 {w : World} {g : Nat} {s : St} {t : TypeId} {fr : Nat × Nat} (h : w.heap[g]? = some (.cells s.cells t fr)) :
    w.cell? ⟨g, 0, none⟩ = some (wv s.a) ∧ w.cell? ⟨g, 1, none⟩ = some (wv s.b) ∧ w.cell? ⟨g, 2, none⟩ = some (wv s.c) ∧ w.cell? ⟨g, 3, none⟩ = some (wv s.d) ∧ w.cell? ⟨g, 4, none⟩ = some (wv s.e) ∧ w.cell? ⟨g, 5, none⟩ = some (wv s.f) ∧ w.cell? ⟨g, 6, none⟩ = some (wv s.g) ∧ w.cell? ⟨g, 7, none⟩ = some (wv s.h) :=
  have hcl : ∀ j v, s.cells[j]? = some v → w.cell? ⟨g, j, none⟩ = some v := fun _j _v h' => (cell_of_row _ _ _ _ _ _ h).trans h'
  ⟨hcl 0 _ rfl, hcl 1 _ rfl, hcl 2 _ rfl, hcl 3 _ rfl, hcl 4 _ rfl, hcl 5 _ rfl, hcl 6 _ rfl, hcl 7 _ rfl⟩
theorem zeros8 {w : World} {g : Nat} {t : TypeId} (h : w.heap[g]? = some (.cells Z8 t (0, 0))) :
    (w.cell? ⟨g, 0, none⟩ = some (.int .u32 0) ∧ w.cell? ⟨g, 1, none⟩ = some (.int .u32 0) ∧ w.cell? ⟨g, 2, none⟩ = some (.int .u32 0) ∧ w.cell? ⟨g, 3, none⟩ = some (.int .u32 0) ∧ w.cell? ⟨g, 4, none⟩ = some (.int .u32 0) ∧ w.cell? ⟨g, 5, none⟩ = some (.int .u32 0) ∧ w.cell? ⟨g, 6, none⟩ = some (.int .u32 0) ∧ w.cell? ⟨g, 7, none⟩ = some (.int .u32 0)) ∧
    (w.frozen? ⟨g, 0, none⟩ = false ∧ w.frozen? ⟨g, 1, none⟩ = false ∧ w.frozen? ⟨g, 2, none⟩ = false ∧ w.frozen? ⟨g, 3, none⟩ = false ∧ w.frozen? ⟨g, 4, none⟩ = false ∧ w.frozen? ⟨g, 5, none⟩ = false ∧ w.frozen? ⟨g, 6, none⟩ = false ∧ w.frozen? ⟨g, 7, none⟩ = false) :=
  have hcl : ∀ j v, Z8[j]? = some v → w.cell? ⟨g, j, none⟩ = some v := fun _j _v h' => (cell_of_row _ _ _ _ _ _ h).trans h'
  have hf := fun j => frozen_of_row w g j _ _ h
  ⟨⟨hcl 0 _ rfl, hcl 1 _ rfl, hcl 2 _ rfl, hcl 3 _ rfl, hcl 4 _ rfl, hcl 5 _ rfl, hcl 6 _ rfl, hcl 7 _ rfl⟩, hf 0, hf 1, hf 2, hf 3, hf 4, hf 5, hf 6, hf 7⟩
/-- eight stores, one behind the other -/
def set8 (w : World) (g : Nat) (s : St) : World := (((((((w.setCell ⟨g, 0, none⟩ (wv s.a)).setCell ⟨g, 1, none⟩ (wv s.b)).setCell ⟨g, 2, none⟩ (wv s.c)).setCell ⟨g, 3, none⟩ (wv s.d)).setCell ⟨g, 4, none⟩ (wv s.e)).setCell ⟨g, 5, none⟩ (wv s.f)).setCell ⟨g, 6, none⟩ (wv s.g)).setCell ⟨g, 7, none⟩ (wv s.h)
theorem set8_same {w : World} {g : Nat} {t : TypeId} (s : St) (h : w.heap[g]? = some (.cells Z8 t (0, 0))) : (set8 w g s).heap[g]? = some (.cells s.cells t (0, 0)) := by
  have h0 := heap_setCell_same w g 0 _ t (wv s.a) h
  have h1 := heap_setCell_same _ g 1 _ t (wv s.b) h0
  have h2 := heap_setCell_same _ g 2 _ t (wv s.c) h1
  have h3 := heap_setCell_same _ g 3 _ t (wv s.d) h2
  have h4 := heap_setCell_same _ g 4 _ t (wv s.e) h3
  have h5 := heap_setCell_same _ g 5 _ t (wv s.f) h4
  have h6 := heap_setCell_same _ g 6 _ t (wv s.g) h5
  have h7 := heap_setCell_same _ g 7 _ t (wv s.h) h6
  unfold set8
  rw [h7]
  simp only [Z8, List.setIfInBounds_toArray, List.set_cons_zero, List.set_cons_succ, St.cells]
theorem set8_other {w : World} {g k : Nat} (s : St) (h : k ≠ g) : (set8 w g s).heap[k]? = w.heap[k]? := by
  unfold set8
  rw [heap_setCell_other _ _ _ _ h, heap_setCell_other _ _ _ _ h, heap_setCell_other _ _ _ _ h, heap_setCell_other _ _ _ _ h, heap_setCell_other _ _ _ _ h, heap_setCell_other _ _ _ _ h, heap_setCell_other _ _ _ _ h, heap_setCell_other _ _ _ _ h]
theorem Below.set8 {B : Nat} {a w : World} (h : Below B a w) {g : Nat} (hg : B ≤ g) (s : St) : Below B a (set8 w g s) :=
  (((((((h.setCell (p := ⟨g, 0, none⟩) hg _).setCell (p := ⟨g, 1, none⟩) hg _).setCell (p := ⟨g, 2, none⟩) hg _).setCell (p := ⟨g, 3, none⟩) hg _).setCell (p := ⟨g, 4, none⟩) hg _).setCell (p := ⟨g, 5, none⟩) hg _).setCell (p := ⟨g, 6, none⟩) hg _).setCell (p := ⟨g, 7, none⟩) hg _
theorem far1 {w : World} {o : Obj} {b j : Nat} {u : Value} (h : w.cell? ⟨b, j, none⟩ = some u) (hb : b < w.heap.size) : (w.alloc o).cell? ⟨b, j, none⟩ = some u := (alloc_far (q := ⟨b, j, none⟩) hb).trans h
theorem far1d {w : World} {o : Obj} {b j : Nat} {u : Value} (h : w.drew.cell? ⟨b, j, none⟩ = some u) (hb : b < w.heap.size) : (w.alloc o).drew.cell? ⟨b, j, none⟩ = some u := far1 (w := w) h hb
theorem far8 {w : World} {g b j : Nat} {v0 v1 v2 v3 v4 v5 v6 v7 u : Value} (h : w.cell? ⟨b, j, none⟩ = some u) (hb : b ≠ g) :
    ((((((((w.setCell ⟨g, 0, none⟩ v0).setCell ⟨g, 1, none⟩ v1).setCell ⟨g, 2, none⟩ v2).setCell ⟨g, 3, none⟩ v3).setCell ⟨g, 4, none⟩ v4).setCell ⟨g, 5, none⟩ v5).setCell ⟨g, 6, none⟩ v6).setCell ⟨g, 7, none⟩ v7).cell? ⟨b, j, none⟩ = some u := by
  rw [far hb, far hb, far hb, far hb, far hb, far hb, far hb, far hb]
  exact h
theorem Rd.alloc {w : World} {A : Option Addr} {l : List UInt8} (h : Rd w w.heap.size A l) (o : Obj) : Rd (w.alloc o) (w.alloc o).heap.size A l :=
  (h.below (Below.alloc (Below.refl w.heap.size w) (Nat.le_refl _) o) (Nat.le_refl _)).more (by rw [World.size_alloc]; omega)
theorem old_alloc {w : World} {g : Nat} {x : Obj} (h : w.heap[g]? = some x) (o : Obj) : (w.alloc o).heap[g]? = some x := (heap_alloc_old w o (Array.getElem?_eq_some_iff.1 h).1).trans h
theorem old_below {w w' : World} {g B : Nat} {x : Obj} (h : w.heap[g]? = some x) (hb : Below B w w') (hB : w.heap.size ≤ B) : w'.heap[g]? = some x := (hb.block g (Nat.lt_of_lt_of_le (Array.getElem?_eq_some_iff.1 h).1 hB)).trans h

set_option maxRecDepth 100000 in
set_option maxHeartbeats 2000000 in
theorem block_any (s : St) (A : Option Addr) (l : List UInt8) (c : Nat) (w : World) (hl : l.length = 64) (hr : Rd w w.heap.size A l) (hk : Ks w) :
    Calls Tryd.prog 59 #[s.v, .slice A 64 c] w fun e w' => e = .returned (.tuple #[(compress s l).v, .int .i64 0]) ∧ Below w.heap.size w w' := by
  have HR := Lib.hid hr
  have HL := Lib.hid hl
  have HK := Lib.hid hk
  clear hr hl hk
  show Calls Tryd.prog 59 #[.agg #[wv s.a, wv s.b, wv s.c, wv s.d, wv s.e, wv s.f, wv s.g, wv s.h], .slice A 64 c] w _
  go_enter Tryd.func59, Tryd.ntmps59
  go_upto_region 3 with (fail)
  obtain ⟨q1, q2, q3, q4⟩ := alloc2 w (.cells s.cells 76) (.cells Z8 76)
  unfold Z8 at *
  generalize (w.alloc (.cells #[wv s.a, wv s.b, wv s.c, wv s.d, wv s.e, wv s.f, wv s.g, wv s.h] 76)).alloc (.cells #[.int .u32 0, .int .u32 0, .int .u32 0, .int .u32 0, .int .u32 0, .int .u32 0, .int .u32 0, .int .u32 0] 76) = w0 at *
  obtain ⟨e0, e1, e2, e3, e4, e5, e6, e7⟩ := cells8 (w := w0.drew) q1
  have hg0 : w.heap.size < w0.heap.size := by omega
  have hg1 : w.heap.size + 1 < w0.heap.size := by omega
  have Q1 := Lib.hid q1
  have Q2 := Lib.hid q2
  have Q3 := Lib.hid q3
  have Q4 := Lib.hid q4
  have HK0 := Lib.hid (HK.out.below q4 HK.out.1)
  have HR0 := Lib.hid ((HR.out.below q4 (Nat.le_refl _)).more q4.size)
  clear q1 q2 q3 q4 HK HR
  go_cut [6] (fun v wr => ∃ g, v = .pointer (some ⟨g, 0, none⟩) ∧ w.heap.size + 1 < g ∧ wr.heap[g]? = some (.cells (rnds (mAt l 64) s 64).cells 76 (0, 0)) ∧ wr.heap[w.heap.size]? = some (.cells s.cells 76 (0, 0)) ∧ wr.heap[w.heap.size + 1]? = some (.cells Z8 76 (0, 0)) ∧ Below w.heap.size w wr)
  case first =>
    have ez : (#[.int .u32 0, .int .u32 0, .int .u32 0, .int .u32 0, .int .u32 0, .int .u32 0, .int .u32 0, .int .u32 0] : Array Value) = Z8 := rfl
    have EZ := Lib.hid ez
    clear ez
    go_region_held3 (fun w' => w'.cell? ⟨w.heap.size, 0, none⟩ = some (wv s.a) ∧ w'.cell? ⟨w.heap.size, 1, none⟩ = some (wv s.b) ∧ w'.cell? ⟨w.heap.size, 2, none⟩ = some (wv s.c) ∧ w'.cell? ⟨w.heap.size, 3, none⟩ = some (wv s.d) ∧ w'.cell? ⟨w.heap.size, 4, none⟩ = some (wv s.e) ∧ w'.cell? ⟨w.heap.size, 5, none⟩ = some (wv s.f) ∧ w'.cell? ⟨w.heap.size, 6, none⟩ = some (wv s.g) ∧ w'.cell? ⟨w.heap.size, 7, none⟩ = some (wv s.h))
      (first
       | ((try dsimp only); go_split_ands; refine ⟨?_, ?_, ?_, ?_, ?_, ?_, ?_, ?_⟩ <;> with_reducible assumption)
       | ((try dsimp only); go_split_ands; refine ⟨?_, ?_, ?_, ?_, ?_, ?_, ?_, ?_⟩ <;> (with_reducible refine far1 ?_ ?_) <;> (first | (with_reducible assumption) | omega))
       | ((try dsimp only); go_split_ands; refine ⟨?_, ?_, ?_, ?_, ?_, ?_, ?_, ?_⟩ <;> (with_reducible refine far1d ?_ ?_) <;> (first | (with_reducible assumption) | omega))
       | ((try dsimp only); go_split_ands; refine ⟨?_, ?_, ?_, ?_, ?_, ?_, ?_, ?_⟩ <;> (with_reducible refine far8 ?_ ?_) <;> (first | (with_reducible assumption) | omega)))
      (first
      | (go_at_call 61; ( refine (schedule_any _ _ _ _ HL.out ?_).mono ?_; (first | exact HR0.out | exact Rd.alloc HR0.out _); rintro e w1 ⟨⟨M, rfl, hM2, hM3⟩, hb1⟩; have HM2 := Lib.hid hM2; have HM3 := Lib.hid hM3; have KS1 := Lib.hid (Ks.call (by first | exact HK0.out | exact Ks.alloc HK0.out _) hb1); have BB1 := Lib.hid (bel_call (B := w.heap.size) (w := w) (by first | exact Q4.out.drew | exact (Q4.out.alloc (Nat.le_of_lt hg0) _).drew) hb1 (by first | exact Nat.le_of_lt hg0 | (simp only [World.size_alloc, size_drew]; omega))); have RR1 := Lib.hid (old_below (g := w.heap.size + 1) (by first | exact Q2.out | exact old_alloc Q2.out _) hb1 (Nat.le_refl _)); have hz1 := hb1.size; (try simp only [World.size_alloc, size_drew] at hz1); have hq1 := old_below (g := w.heap.size) (by first | exact Q1.out | exact old_alloc Q1.out _) hb1 (Nat.le_refl _); have QQ1 := Lib.hid hq1; obtain ⟨u0, u1, u2, u3, u4, u5, u6, u7⟩ := cells8 hq1; (try (have hq2 := old_below (g := w0.heap.size) (by exact heap_alloc_new w0 (.cells Z8 76)) hb1 (Nat.le_refl _); have ZZ := Lib.hid hq2; clear hq2)); clear hM2 hM3 hb1 hq1))
      | (go_at_call 60; refine (turned_any s M _ HM2.out HM3.out _ ?_).mono ?_; (first | exact KS1.out | exact Ks.alloc KS1.out _); rintro e w2 ⟨rfl, hb2⟩; have BB2 := Lib.hid (bel_call (B := w.heap.size) (w := w) (by first | exact BB1.out | exact BB1.out.alloc (by omega) _) hb2 (by first | omega | (simp only [World.size_alloc]; omega))); have RR2 := Lib.hid (old_below (g := w.heap.size + 1) (by first | exact RR1.out | exact old_alloc RR1.out _) hb2 (Nat.le_refl _)); have hz2 := hb2.size; (try simp only [World.size_alloc] at hz2); have hq2 := old_below (g := w.heap.size) (by first | exact QQ1.out | exact old_alloc QQ1.out _) hb2 (Nat.le_refl _); have QQ2 := Lib.hid hq2; obtain ⟨v0, v1, v2, v3, v4, v5, v6, v7⟩ := cells8 hq2; (first | (have hq3 := old_below (g := w0.heap.size) (ZZ.out) hb2 (Nat.le_refl _); have ZZ2 := Lib.hid hq3; obtain ⟨⟨z0, z1, z2, z3, z4, z5, z6, z7⟩, y0, y1, y2, y3, y4, y5, y6, y7⟩ := zeros8 hq3; clear hq3) | (have hq3 := old_below (g := w1.heap.size) (by exact heap_alloc_new w1 (.cells Z8 76)) hb2 (Nat.le_refl _); have ZZ2 := Lib.hid hq3; obtain ⟨⟨z0, z1, z2, z3, z4, z5, z6, z7⟩, y0, y1, y2, y3, y4, y5, y6, y7⟩ := zeros8 hq3; clear hq3) | skip); clear hb2 hq2))
    · go_wp2_with fail
      go_meet
      case rel => exact ⟨w2.heap.size, rfl, by omega, heap_alloc_new w2 _, old_alloc QQ2.out _, old_alloc RR2.out _, BB2.out.alloc (by omega) _⟩
    · go_wp2_with fail
      go_meet
      case rel =>
        refine ⟨w1.heap.size, rfl, by omega, ?_⟩
        exact ⟨set8_same _ ZZ2.out, (set8_other _ (by omega)).trans QQ2.out, (set8_other _ (by omega)).trans RR2.out, Below.set8 BB2.out (by omega) _⟩
    · go_wp2_with fail
      go_meet
      case rel =>
        refine ⟨w0.heap.size, rfl, by omega, ?_⟩
        exact ⟨set8_same _ ZZ2.out, (set8_other _ (by omega)).trans QQ2.out, (set8_other _ (by omega)).trans RR2.out, Below.set8 BB2.out (by omega) _⟩
  case rest =>
    obtain ⟨g, hv, hg, hG, hS, hZ, hB⟩ := hcut
    subst hv
    have r1 := row_of_st hS
    have r2 := row_of_st hG
    have HG := Lib.hid r2
    have HZ := Lib.hid hZ
    have HB := Lib.hid hB
    have hgne : w.heap.size ≠ g := by omega
    have hgl : w.heap.size ≤ g := by omega
    clear HK0 HR0 Q1 Q2 Q3 Q4 hG hS hZ hB r2 e0 e1 e2 e3 e4 e5 e6 e7
    generalize hX : rnds (mAt l 64) s 64 = X at *
    have HX := Lib.hid hX
    clear hX
    go_wp2
    go_loopw [16] (fun i wr => ∃ k : Nat, k ≤ 8 ∧ i = .int .i64 k ∧ wr.rowIs w.heap.size 76 8 (fun j => wv (if j < k then s.at j + X.at j else s.at j)) ∧ wr.rowIs g 76 8 (fun j => wv (X.at j)) ∧ wr.heap[w.heap.size + 1]? = some (.cells Z8 76 (0, 0)) ∧ Below w.heap.size w wr) (fun i _ => 8 - (intOf i).toNat)
    case atStart => exact ⟨0, by omega, rfl, r1.congr (fun j _ => by simp), HG.out, HZ.out, HB.out⟩
    case round =>
      clear HG HZ HB r1
      obtain ⟨k, hk, rfl, h1, h2, h3, h4⟩ := hrel
      have H1 := Lib.hid h1
      have H2 := Lib.hid h2
      have H3 := Lib.hid h3
      have H4 := Lib.hid h4
      clear h1 h2 h3 h4
      by_cases hlt : k < 8
      · have c1 := H1.out.cell (i := k) hlt
        have c2 := H2.out.cell (i := k) hlt
        have f1 := H1.out.frozen k
        rw [if_neg (Nat.lt_irrefl k)] at c1
        have E := Lib.hid (w_add' (s.at k) (X.at k))
        obtain ⟨y, hy⟩ : ∃ y, y = s.at k := ⟨_, rfl⟩
        obtain ⟨x, hx⟩ : ∃ x, x = X.at k := ⟨_, rfl⟩
        rw [← hy] at c1 E
        rw [← hx] at c2 E
        have HY := Lib.hid hy
        have HXX := Lib.hid hx
        clear hy hx
        go_wp2
        go_region
        go_wp2
        go_roundw
        case rel => exact ⟨k + 1, by omega, by go_num, ((H1.out.set k _).congr (fun j hj => by
            by_cases hjk : j = k
            · subst hjk
              rw [if_pos rfl, if_pos (Nat.lt_succ_self _), ← HY.out, ← HXX.out]
              exact int_eq E.out
            · rw [if_neg hjk]
              by_cases hlt2 : j < k
              · rw [if_pos hlt2, if_pos (by omega)]
              · rw [if_neg hlt2, if_neg (by omega)])).drew, (H2.out.setOther (by show g ≠ w.heap.size; omega) _).drew, (heap_setCell_other _ _ _ _ (by simp)).trans H3.out, (H4.out.setCell (by simp) _).drew⟩
        case measure => simp [intOf]; omega
      · have hk8 : k = 8 := by omega
        have r1 := st_of_row (s := s.add X) (H1.out.congr (fun j hj => by
          rw [hk8, if_pos hj]
          match j, hj with
          | 0, _ => rfl | 1, _ => rfl | 2, _ => rfl | 3, _ => rfl | 4, _ => rfl | 5, _ => rfl | 6, _ => rfl | 7, _ => rfl
          | j + 8, hj => omega))
        have R1 := Lib.hid r1
        clear r1 hk8
        go_wp2_with (first | (refine load8 wr (.tmp 2) w.heap.size (s.add X) R1.out rfl rfl rfl ?_) | (refine store8 wr (.tmp 4) (.tmp 28) (w.heap.size + 1) (s.add X) _ H3.out rfl rfl rfl rfl rfl ?_))
        (try simp only [Exit.inBlock, Exit.then])
        refine bodyPost_ret (ret8_2 rfl _ _ (w.heap.size + 1) (s.add X) rfl (setRow_heap _ _ _ _ _ _ H3.out)) rfl ?_
        exact ⟨by rw [← HX.out]; rfl, Below.setRow H4.out (by omega) _⟩
end Go.Proofs.YtcfncbbdlbdbnaaDoor
