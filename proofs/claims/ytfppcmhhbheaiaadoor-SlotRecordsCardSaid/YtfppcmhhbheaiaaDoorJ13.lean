
/- sha.Block: the words behind a block. -/
import Derived.Test.YtfppcmhhbheaiaaDoorJ12
import Derived.Deep.RegionWith
import Derived.Deep.Cut
import Derived.Deep.CutRange
import Derived.Deep.DeepCutAuto
import Derived.Deep.RegionHeld3
import Derived.Laws.CopyOwn
namespace Go.Proofs.YtfppcmhhbheaiaaDoor
open Go.RowKit

set_option maxRecDepth 100000 in
theorem Ks.alloc {w : World} (h : Ks w) (o : Obj) : Ks (w.alloc o) := h.below (Below.alloc (Below.refl w.heap.size w) (Nat.le_refl _) o) h.1
set_option maxRecDepth 100000 in
theorem Ks.drew {w : World} (h : Ks w) : Ks w.drew := h
set_option maxRecDepth 100000 in
theorem size_drew (w : World) : w.drew.heap.size = w.heap.size := rfl
set_option maxRecDepth 100000 in
theorem far {w : World} {p q : Addr} {v : Value} (h : q.block ≠ p.block) : (w.setCell p v).cell? q = w.cell? q := World.cell?_setCell_other _ _ _ _ (fun e => h (by rw [e]))
set_option maxRecDepth 100000 in
theorem alloc_far {w : World} {q : Addr} {o : Obj} (h : q.block < w.heap.size) : (w.alloc o).cell? q = w.cell? q := World.cell?_alloc_lt _ _ _ h
set_option maxRecDepth 100000 in
theorem cell_drew {w : World} {q : Addr} : w.drew.cell? q = w.cell? q := rfl
def Z8 : Array Value := #[.int .u32 0, .int .u32 0, .int .u32 0, .int .u32 0, .int .u32 0, .int .u32 0, .int .u32 0, .int .u32 0]
set_option maxRecDepth 100000 in
theorem alloc2 (w : World) (A B : Obj) : ((w.alloc A).alloc B).heap[w.heap.size]? = some A ∧ ((w.alloc A).alloc B).heap[w.heap.size + 1]? = some B ∧ ((w.alloc A).alloc B).heap.size = w.heap.size + 1 + 1 ∧ Below w.heap.size w ((w.alloc A).alloc B) := by
  have e1 : (w.alloc A).heap.size = w.heap.size + 1 := by rw [World.size_alloc]
  refine ⟨?_, ?_, by rw [World.size_alloc, e1], (((Below.refl _ _).alloc (Nat.le_refl _) _).alloc (by omega) _)⟩
  · rw [heap_alloc_old (h := by omega), heap_alloc_new]
  · rw [← e1, heap_alloc_new]
set_option maxRecDepth 100000 in
theorem bcell {W w1 : World} {B : Nat} (hb : Below B W w1) : (∀ b o, b < B → w1.cell? ⟨b, o, none⟩ = W.cell? ⟨b, o, none⟩) ∧ (∀ b o, b < B → w1.frozen? ⟨b, o, none⟩ = W.frozen? ⟨b, o, none⟩) :=
  ⟨fun b o h => hb.cell (p := ⟨b, o, none⟩) h, fun b o h => hb.frozen (p := ⟨b, o, none⟩) h⟩

def St.at (s : St) (j : Nat) : UInt32 := s.list.getD j 0
set_option maxRecDepth 100000 in
theorem row_of_st {w : World} {g : Nat} {t : TypeId} {s : St} (h : w.heap[g]? = some (.cells s.cells t (0, 0))) : w.rowIs g t 8 (fun j => wv (s.at j)) :=
  ⟨_, h, rfl, fun i hi => by
    match i, hi with
    | 0, _ => rfl | 1, _ => rfl | 2, _ => rfl | 3, _ => rfl | 4, _ => rfl | 5, _ => rfl | 6, _ => rfl | 7, _ => rfl
    | i + 8, hi => omega⟩
set_option maxRecDepth 100000 in
theorem st_of_row {w : World} {g : Nat} {t : TypeId} {s : St} (h : w.rowIs g t 8 (fun j => wv (s.at j))) : w.heap[g]? = some (.cells s.cells t (0, 0)) := by
  obtain ⟨c, h1, h2, h3⟩ := h
  have e : c = s.cells := by
    apply Array.ext_getElem?
    intro i
    by_cases hi : i < 8
    · rw [h3 i hi]
      match i, hi with
      | 0, _ => rfl | 1, _ => rfl | 2, _ => rfl | 3, _ => rfl | 4, _ => rfl | 5, _ => rfl | 6, _ => rfl | 7, _ => rfl
      | i + 8, hi => omega
    · rw [Array.getElem?_eq_none (by omega), Array.getElem?_eq_none (by simp [St.cells]; omega)]
  rw [h1, e]
set_option maxRecDepth 100000 in
theorem load8 {ops : Array Oper} {rest : List Oper} {o : Oper} {a : Act} {Q : Exit → Act → World → Prop} (W : World) (x : Operand) (g : Nat) (s : St)
    (hg : W.heap[g]? = some (.cells s.cells 63 (0, 0))) (hgd : o.guard = none) (ho : o.op = .load 63 x) (hx : a.eval x = .pointer (some ⟨g, 0, none⟩))
    (h : wpList Tryd.prog ops Q rest (a.put o.dst s.v) W) : wpList Tryd.prog ops Q (o :: rest) a W :=
  wpList_load_row hgd 63 x ho g hx 63 s.cells (0, 0) _ hg Tryd.underlying63 rfl (by kernel_rfl) h
set_option maxRecDepth 100000 in
/-- two results: a state in a block of its own, and a slot -/
theorem ret8_2 {fn : Func} {p q : Tmp} (h : fn.results = #[.cell p 63, .tmp q]) (tmps : Array Value) (W : World) (g : Nat) (s : St) (hp : tmps.getD p undef = .pointer (some ⟨g, 0, none⟩)) (hg : W.heap[g]? = some (.cells s.cells 63 (0, 0))) :
    (results fn tmps).run Tryd.prog W = .ok (.tuple #[s.v, tmps.getD q undef]) W := by
  have hp' : tmps[p]?.getD undef = .pointer (some ⟨g, 0, none⟩) := by simpa using hp
  have hl := run_loadVar_row (P := Tryd.prog) W g 63 63 s.cells (0, 0) _ hg Tryd.underlying63 rfl (by kernel_rfl)
  simp [results, h, hp', asAddr, hl]
set_option maxRecDepth 100000 in
theorem Ks.call {X w1 : World} (h : Ks X) (hb : Below X.heap.size X w1) : Ks w1 := h.below hb h.1
set_option maxRecDepth 100000 in
theorem bel_call {B : Nat} {w X w1 : World} (h : Below B w X) (hb : Below X.heap.size X w1) (hB : B ≤ X.heap.size) : Below B w w1 := h.trans (hb.mono hB)
set_option maxRecDepth 100000 in
theorem cells8 {w : World} {g : Nat} {s : St} {t : TypeId} {fr : Nat × Nat} (h : w.heap[g]? = some (.cells s.cells t fr)) :
    w.cell? ⟨g, 0, none⟩ = some (wv s.a) ∧ w.cell? ⟨g, 1, none⟩ = some (wv s.b) ∧ w.cell? ⟨g, 2, none⟩ = some (wv s.c) ∧ w.cell? ⟨g, 3, none⟩ = some (wv s.d) ∧ w.cell? ⟨g, 4, none⟩ = some (wv s.e) ∧ w.cell? ⟨g, 5, none⟩ = some (wv s.f) ∧ w.cell? ⟨g, 6, none⟩ = some (wv s.g) ∧ w.cell? ⟨g, 7, none⟩ = some (wv s.h) :=
  have hcl : ∀ j v, s.cells[j]? = some v → w.cell? ⟨g, j, none⟩ = some v := fun _j _v h' => (cell_of_row _ _ _ _ _ _ h).trans h'
  ⟨hcl 0 _ rfl, hcl 1 _ rfl, hcl 2 _ rfl, hcl 3 _ rfl, hcl 4 _ rfl, hcl 5 _ rfl, hcl 6 _ rfl, hcl 7 _ rfl⟩
set_option maxRecDepth 100000 in
theorem zeros8 {w : World} {g : Nat} {t : TypeId} (h : w.heap[g]? = some (.cells Z8 t (0, 0))) :
    (w.cell? ⟨g, 0, none⟩ = some (.int .u32 0) ∧ w.cell? ⟨g, 1, none⟩ = some (.int .u32 0) ∧ w.cell? ⟨g, 2, none⟩ = some (.int .u32 0) ∧ w.cell? ⟨g, 3, none⟩ = some (.int .u32 0) ∧ w.cell? ⟨g, 4, none⟩ = some (.int .u32 0) ∧ w.cell? ⟨g, 5, none⟩ = some (.int .u32 0) ∧ w.cell? ⟨g, 6, none⟩ = some (.int .u32 0) ∧ w.cell? ⟨g, 7, none⟩ = some (.int .u32 0)) ∧
    (w.frozen? ⟨g, 0, none⟩ = false ∧ w.frozen? ⟨g, 1, none⟩ = false ∧ w.frozen? ⟨g, 2, none⟩ = false ∧ w.frozen? ⟨g, 3, none⟩ = false ∧ w.frozen? ⟨g, 4, none⟩ = false ∧ w.frozen? ⟨g, 5, none⟩ = false ∧ w.frozen? ⟨g, 6, none⟩ = false ∧ w.frozen? ⟨g, 7, none⟩ = false) :=
  have hcl : ∀ j v, Z8[j]? = some v → w.cell? ⟨g, j, none⟩ = some v := fun _j _v h' => (cell_of_row _ _ _ _ _ _ h).trans h'
  have hf := fun j => frozen_of_row w g j _ _ h
  ⟨⟨hcl 0 _ rfl, hcl 1 _ rfl, hcl 2 _ rfl, hcl 3 _ rfl, hcl 4 _ rfl, hcl 5 _ rfl, hcl 6 _ rfl, hcl 7 _ rfl⟩, hf 0, hf 1, hf 2, hf 3, hf 4, hf 5, hf 6, hf 7⟩
/-- eight stores, one behind the other -/
def set8 (w : World) (g : Nat) (s : St) : World := (((((((w.setCell ⟨g, 0, none⟩ (wv s.a)).setCell ⟨g, 1, none⟩ (wv s.b)).setCell ⟨g, 2, none⟩ (wv s.c)).setCell ⟨g, 3, none⟩ (wv s.d)).setCell ⟨g, 4, none⟩ (wv s.e)).setCell ⟨g, 5, none⟩ (wv s.f)).setCell ⟨g, 6, none⟩ (wv s.g)).setCell ⟨g, 7, none⟩ (wv s.h)
set_option maxRecDepth 100000 in
theorem set8_same {w : World} {g : Nat} {t : TypeId} (s : St) (h : w.heap[g]? = some (.cells Z8 t (0, 0))) : (set8 w g s).heap[g]? = some (.cells s.cells t (0, 0)) := by
  have h0 := heap_setCell_same w g 0 _ t (wv s.a) h
  have h1 := heap_setCell_same _ g 1 _ t (wv s.b) h0
  have h2 := heap_setCell_same _ g 2 _ t (wv s.c) h1
  have h3 := heap_setCell_same _ g 3 _ t (wv s.d) h2
  have h4 := heap_setCell_same _ g 4 _ t (wv s.e) h3
  have h5 := heap_setCell_same _ g 5 _ t (wv s.f) h4
  have h6 := heap_setCell_same _ g 6 _ t (wv s.g) h5
  have h7 := heap_setCell_same _ g 7 _ t (wv s.h) h6
  unfold set8
  rw [h7]
  simp only [Z8, List.setIfInBounds_toArray, List.set_cons_zero, List.set_cons_succ, St.cells]
set_option maxRecDepth 100000 in
theorem set8_other {w : World} {g k : Nat} (s : St) (h : k ≠ g) : (set8 w g s).heap[k]? = w.heap[k]? := by
  unfold set8
  rw [heap_setCell_other _ _ _ _ h, heap_setCell_other _ _ _ _ h, heap_setCell_other _ _ _ _ h, heap_setCell_other _ _ _ _ h, heap_setCell_other _ _ _ _ h, heap_setCell_other _ _ _ _ h, heap_setCell_other _ _ _ _ h, heap_setCell_other _ _ _ _ h]
set_option maxRecDepth 100000 in
theorem Below.set8 {B : Nat} {a w : World} (h : Below B a w) {g : Nat} (hg : B ≤ g) (s : St) : Below B a (set8 w g s) :=
  (((((((h.setCell (p := ⟨g, 0, none⟩) hg _).setCell (p := ⟨g, 1, none⟩) hg _).setCell (p := ⟨g, 2, none⟩) hg _).setCell (p := ⟨g, 3, none⟩) hg _).setCell (p := ⟨g, 4, none⟩) hg _).setCell (p := ⟨g, 5, none⟩) hg _).setCell (p := ⟨g, 6, none⟩) hg _).setCell (p := ⟨g, 7, none⟩) hg _
set_option maxRecDepth 100000 in
theorem far1 {w : World} {o : Obj} {b j : Nat} {u : Value} (h : w.cell? ⟨b, j, none⟩ = some u) (hb : b < w.heap.size) : (w.alloc o).cell? ⟨b, j, none⟩ = some u := (alloc_far (q := ⟨b, j, none⟩) hb).trans h
set_option maxRecDepth 100000 in
theorem far1d {w : World} {o : Obj} {b j : Nat} {u : Value} (h : w.drew.cell? ⟨b, j, none⟩ = some u) (hb : b < w.heap.size) : (w.alloc o).drew.cell? ⟨b, j, none⟩ = some u := far1 (w := w) h hb
set_option maxRecDepth 100000 in
theorem far8 {w : World} {g b j : Nat} {v0 v1 v2 v3 v4 v5 v6 v7 u : Value} (h : w.cell? ⟨b, j, none⟩ = some u) (hb : b ≠ g) :
    ((((((((w.setCell ⟨g, 0, none⟩ v0).setCell ⟨g, 1, none⟩ v1).setCell ⟨g, 2, none⟩ v2).setCell ⟨g, 3, none⟩ v3).setCell ⟨g, 4, none⟩ v4).setCell ⟨g, 5, none⟩ v5).setCell ⟨g, 6, none⟩ v6).setCell ⟨g, 7, none⟩ v7).cell? ⟨b, j, none⟩ = some u := by
  rw [far hb, far hb, far hb, far hb, far hb, far hb, far hb, far hb]
  exact h
set_option maxRecDepth 100000 in
theorem Rd.alloc {w : World} {A : Option Addr} {l : List UInt8} (h : Rd w w.heap.size A l) (o : Obj) : Rd (w.alloc o) (w.alloc o).heap.size A l :=
  (h.below (Below.alloc (Below.refl w.heap.size w) (Nat.le_refl _) o) (Nat.le_refl _)).more (by rw [World.size_alloc]; omega)
set_option maxRecDepth 100000 in
theorem old_alloc {w : World} {g : Nat} {x : Obj} (h : w.heap[g]? = some x) (o : Obj) : (w.alloc o).heap[g]? = some x := (heap_alloc_old w o (Array.getElem?_eq_some_iff.1 h).1).trans h
set_option maxRecDepth 100000 in
theorem old_below {w w' : World} {g B : Nat} {x : Obj} (h : w.heap[g]? = some x) (hb : Below B w w') (hB : w.heap.size ≤ B) : w'.heap[g]? = some x := (hb.block g (Nat.lt_of_lt_of_le (Array.getElem?_eq_some_iff.1 h).1 hB)).trans h

set_option maxRecDepth 100000 in
set_option maxHeartbeats 2000000 in
theorem block_any (s : St) (A : Option Addr) (l : List UInt8) (c : Nat) (w : World) (hl : l.length = 64) (hr : Rd w w.heap.size A l) (hk : Ks w) :
    Calls Tryd.prog 50 #[s.v, .slice A 64 c] w fun e w' => e = .returned (.tuple #[(compress s l).v, .int .i64 0]) ∧ Below w.heap.size w w' := by
  have HR := Lib.hid hr
  have HL := Lib.hid hl
  have HK := Lib.hid hk
  clear hr hl hk
  show Calls Tryd.prog 50 #[.agg #[wv s.a, wv s.b, wv s.c, wv s.d, wv s.e, wv s.f, wv s.g, wv s.h], .slice A 64 c] w _
  go_enter Tryd.func50, Tryd.ntmps50
  go_upto_region 3 with (fail)
  obtain ⟨q1, q2, q3, q4⟩ := alloc2 w (.cells s.cells 63) (.cells Z8 63)
  unfold Z8 at *
  generalize (w.alloc (.cells #[wv s.a, wv s.b, wv s.c, wv s.d, wv s.e, wv s.f, wv s.g, wv s.h] 63)).alloc (.cells #[.int .u32 0, .int .u32 0, .int .u32 0, .int .u32 0, .int .u32 0, .int .u32 0, .int .u32 0, .int .u32 0] 63) = w0 at *
  obtain ⟨e0, e1, e2, e3, e4, e5, e6, e7⟩ := cells8 (w := w0.drew) q1
  have hg0 : w.heap.size < w0.heap.size := by omega
  have hg1 : w.heap.size + 1 < w0.heap.size := by omega
  have Q1 := Lib.hid q1
  have Q2 := Lib.hid q2
  have Q3 := Lib.hid q3
  have Q4 := Lib.hid q4
  have HK0 := Lib.hid (HK.out.below q4 HK.out.1)
  have HR0 := Lib.hid ((HR.out.below q4 (Nat.le_refl _)).more q4.size)
  clear q1 q2 q3 q4 HK HR
  go_cut [6] (fun v wr => ∃ g, v = .pointer (some ⟨g, 0, none⟩) ∧ w.heap.size + 1 < g ∧ wr.heap[g]? = some (.cells (rnds (mAt l 64) s 64).cells 63 (0, 0)) ∧ wr.heap[w.heap.size]? = some (.cells s.cells 63 (0, 0)) ∧ wr.heap[w.heap.size + 1]? = some (.cells Z8 63 (0, 0)) ∧ Below w.heap.size w wr)
  case first =>
    have ez : (#[.int .u32 0, .int .u32 0, .int .u32 0, .int .u32 0, .int .u32 0, .int .u32 0, .int .u32 0, .int .u32 0] : Array Value) = Z8 := rfl
    have EZ := Lib.hid ez
    clear ez
    go_region_held3 (fun w' => w'.cell? ⟨w.heap.size, 0, none⟩ = some (wv s.a) ∧ w'.cell? ⟨w.heap.size, 1, none⟩ = some (wv s.b) ∧ w'.cell? ⟨w.heap.size, 2, none⟩ = some (wv s.c) ∧ w'.cell? ⟨w.heap.size, 3, none⟩ = some (wv s.d) ∧ w'.cell? ⟨w.heap.size, 4, none⟩ = some (wv s.e) ∧ w'.cell? ⟨w.heap.size, 5, none⟩ = some (wv s.f) ∧ w'.cell? ⟨w.heap.size, 6, none⟩ = some (wv s.g) ∧ w'.cell? ⟨w.heap.size, 7, none⟩ = some (wv s.h))
      (first
       | ((try dsimp only); go_split_ands; refine ⟨?_, ?_, ?_, ?_, ?_, ?_, ?_, ?_⟩ <;> with_reducible assumption)
       | ((try dsimp only); go_split_ands; refine ⟨?_, ?_, ?_, ?_, ?_, ?_, ?_, ?_⟩ <;> (with_reducible refine far1 ?_ ?_) <;> (first | (with_reducible assumption) | omega))
       | ((try dsimp only); go_split_ands; refine ⟨?_, ?_, ?_, ?_, ?_, ?_, ?_, ?_⟩ <;> (with_reducible refine far1d ?_ ?_) <;> (first | (with_reducible assumption) | omega))
       | ((try dsimp only); go_split_ands; refine ⟨?_, ?_, ?_, ?_, ?_, ?_, ?_, ?_⟩ <;> (with_reducible refine far8 ?_ ?_) <;> (first | (with_reducible assumption) | omega)))
      (first
      | (go_at_call 52; ( refine (schedule_any _ _ _ _ HL.out ?_).mono ?_; (first | exact HR0.out | exact Rd.alloc HR0.out _); rintro e w1 ⟨⟨M, rfl, hM2, hM3⟩, hb1⟩; have HM2 := Lib.hid hM2; have HM3 := Lib.hid hM3; have KS1 := Lib.hid (Ks.call (by first | exact HK0.out | exact Ks.alloc HK0.out _) hb1); have BB1 := Lib.hid (bel_call (B := w.heap.size) (w := w) (by first | exact Q4.out.drew | exact (Q4.out.alloc (Nat.le_of_lt hg0) _).drew) hb1 (by first | exact Nat.le_of_lt hg0 | (simp only [World.size_alloc, size_drew]; omega))); have RR1 := Lib.hid (old_below (g := w.heap.size + 1) (by first | exact Q2.out | exact old_alloc Q2.out _) hb1 (Nat.le_refl _)); have hz1 := hb1.size; (try simp only [World.size_alloc, size_drew] at hz1); have hq1 := old_below (g := w.heap.size) (by first | exact Q1.out | exact old_alloc Q1.out _) hb1 (Nat.le_refl _); have QQ1 := Lib.hid hq1; obtain ⟨u0, u1, u2, u3, u4, u5, u6, u7⟩ := cells8 hq1; (try (have hq2 := old_below (g := w0.heap.size) (by exact heap_alloc_new w0 (.cells Z8 63)) hb1 (Nat.le_refl _); have ZZ := Lib.hid hq2; clear hq2)); clear hM2 hM3 hb1 hq1))
      | (go_at_call 51; refine (turned_any s M _ HM2.out HM3.out _ ?_).mono ?_; (first | exact KS1.out | exact Ks.alloc KS1.out _); rintro e w2 ⟨rfl, hb2⟩; have BB2 := Lib.hid (bel_call (B := w.heap.size) (w := w) (by first | exact BB1.out | exact BB1.out.alloc (by omega) _) hb2 (by first | omega | (simp only [World.size_alloc]; omega))); have RR2 := Lib.hid (old_below (g := w.heap.size + 1) (by first | exact RR1.out | exact old_alloc RR1.out _) hb2 (Nat.le_refl _)); have hz2 := hb2.size; (try simp only [World.size_alloc] at hz2); have hq2 := old_below (g := w.heap.size) (by first | exact QQ1.out | exact old_alloc QQ1.out _) hb2 (Nat.le_refl _); have QQ2 := Lib.hid hq2; obtain ⟨v0, v1, v2, v3, v4, v5, v6, v7⟩ := cells8 hq2; (first | (have hq3 := old_below (g := w0.heap.size) (ZZ.out) hb2 (Nat.le_refl _); have ZZ2 := Lib.hid hq3; obtain ⟨⟨z0, z1, z2, z3, z4, z5, z6, z7⟩, y0, y1, y2, y3, y4, y5, y6, y7⟩ := zeros8 hq3; clear hq3) | (have hq3 := old_below (g := w1.heap.size) (by exact heap_alloc_new w1 (.cells Z8 63)) hb2 (Nat.le_refl _); have ZZ2 := Lib.hid hq3; obtain ⟨⟨z0, z1, z2, z3, z4, z5, z6, z7⟩, y0, y1, y2, y3, y4, y5, y6, y7⟩ := zeros8 hq3; clear hq3) | skip); clear hb2 hq2))
    · go_wp2_with fail
      go_meet
      case rel => exact ⟨w2.heap.size, rfl, by omega, heap_alloc_new w2 _, old_alloc QQ2.out _, old_alloc RR2.out _, BB2.out.alloc (by omega) _⟩
    · go_wp2_with fail
      go_meet
      case rel =>
        refine ⟨w1.heap.size, rfl, by omega, ?_⟩
        exact ⟨set8_same _ ZZ2.out, (set8_other _ (by omega)).trans QQ2.out, (set8_other _ (by omega)).trans RR2.out, Below.set8 BB2.out (by omega) _⟩
    · go_wp2_with fail
      go_meet
      case rel =>
        refine ⟨w0.heap.size, rfl, by omega, ?_⟩
        exact ⟨set8_same _ ZZ2.out, (set8_other _ (by omega)).trans QQ2.out, (set8_other _ (by omega)).trans RR2.out, Below.set8 BB2.out (by omega) _⟩
  case rest =>
    obtain ⟨g, hv, hg, hG, hS, hZ, hB⟩ := hcut
    subst hv
    have r1 := row_of_st hS
    have r2 := row_of_st hG
    have HG := Lib.hid r2
    have HZ := Lib.hid hZ
    have HB := Lib.hid hB
    have hgne : w.heap.size ≠ g := by omega
    have hgl : w.heap.size ≤ g := by omega
    clear HK0 HR0 Q1 Q2 Q3 Q4 hG hS hZ hB r2 e0 e1 e2 e3 e4 e5 e6 e7
    generalize hX : rnds (mAt l 64) s 64 = X at *
    have HX := Lib.hid hX
    clear hX
    go_wp2
    go_loopw [16] (fun i wr => ∃ k : Nat, k ≤ 8 ∧ i = .int .i64 k ∧ wr.rowIs w.heap.size 63 8 (fun j => wv (if j < k then s.at j + X.at j else s.at j)) ∧ wr.rowIs g 63 8 (fun j => wv (X.at j)) ∧ wr.heap[w.heap.size + 1]? = some (.cells Z8 63 (0, 0)) ∧ Below w.heap.size w wr) (fun i _ => 8 - (intOf i).toNat)
    case atStart => exact ⟨0, by omega, rfl, r1.congr (fun j _ => by simp), HG.out, HZ.out, HB.out⟩
    case round =>
      clear HG HZ HB r1
      obtain ⟨k, hk, rfl, h1, h2, h3, h4⟩ := hrel
      have H1 := Lib.hid h1
      have H2 := Lib.hid h2
      have H3 := Lib.hid h3
      have H4 := Lib.hid h4
      clear h1 h2 h3 h4
      by_cases hlt : k < 8
      · have c1 := H1.out.cell (i := k) hlt
        have c2 := H2.out.cell (i := k) hlt
        have f1 := H1.out.frozen k
        rw [if_neg (Nat.lt_irrefl k)] at c1
        have E := Lib.hid (w_add' (s.at k) (X.at k))
        obtain ⟨y, hy⟩ : ∃ y, y = s.at k := ⟨_, rfl⟩
        obtain ⟨x, hx⟩ : ∃ x, x = X.at k := ⟨_, rfl⟩
        rw [← hy] at c1 E
        rw [← hx] at c2 E
        have HY := Lib.hid hy
        have HXX := Lib.hid hx
        clear hy hx
        go_wp2
        go_region
        go_wp2
        go_roundw
        case rel => exact ⟨k + 1, by omega, by go_num, ((H1.out.set k _).congr (fun j hj => by
            by_cases hjk : j = k
            · subst hjk
              rw [if_pos rfl, if_pos (Nat.lt_succ_self _), ← HY.out, ← HXX.out]
              exact int_eq E.out
            · rw [if_neg hjk]
              by_cases hlt2 : j < k
              · rw [if_pos hlt2, if_pos (by omega)]
              · rw [if_neg hlt2, if_neg (by omega)])).drew, (H2.out.setOther (by show g ≠ w.heap.size; omega) _).drew, (heap_setCell_other _ _ _ _ (by simp)).trans H3.out, (H4.out.setCell (by simp) _).drew⟩
        case measure => simp [intOf]; omega
      · have hk8 : k = 8 := by omega
        have r1 := st_of_row (s := s.add X) (H1.out.congr (fun j hj => by
          rw [hk8, if_pos hj]
          match j, hj with
          | 0, _ => rfl | 1, _ => rfl | 2, _ => rfl | 3, _ => rfl | 4, _ => rfl | 5, _ => rfl | 6, _ => rfl | 7, _ => rfl
          | j + 8, hj => omega))
        have R1 := Lib.hid r1
        clear r1 hk8
        go_wp2_with (first | (refine load8 wr (.tmp 2) w.heap.size (s.add X) R1.out rfl rfl rfl ?_) | (refine store8 wr (.tmp 4) (.tmp 28) (w.heap.size + 1) (s.add X) _ H3.out rfl rfl rfl rfl rfl ?_))
        (try simp only [Exit.inBlock, Exit.then])
        refine bodyPost_ret (ret8_2 rfl _ _ (w.heap.size + 1) (s.add X) rfl (setRow_heap _ _ _ _ _ _ H3.out)) rfl ?_
        exact ⟨by rw [← HX.out]; rfl, Below.setRow H4.out (by omega) _⟩
end Go.Proofs.YtfppcmhhbheaiaaDoor
/- sha.join, sha.own, sha.ending. -/

namespace Go.Proofs.YtfppcmhhbheaiaaDoor
open Go.RowKit

set_option maxRecDepth 100000 in
theorem madeB (n : Nat) : madeCells #[Value.int .u8 0] n = (cs (List.replicate n 0)).toArray := by
  apply Array.ext_getElem?
  intro i
  by_cases hi : i < n
  · simp [madeCells, cs, hi, Nat.mod_one]
  · simp [madeCells, cs, hi]
/-- one row of bytes laid over another -/
def spl (L : List UInt8) (off : Nat) (l : List UInt8) : List UInt8 := L.take off ++ (l ++ L.drop (off + l.length))
set_option maxRecDepth 100000 in
theorem cs_spl (L : List UInt8) (off : Nat) (l : List UInt8) : cs (spl L off l) = splice (cs L) off (cs l) := by
  unfold spl splice cs
  rw [List.map_append, List.map_append, List.map_take, List.map_drop, List.length_map]
/-- a call's answer: one slice that reads as l -/
def Ans1 (B : Nat) (W' : World) (e : Ending) (l : List UInt8) (n : Nat) : Prop := ∃ A c, e = .returned (.slice A n c) ∧ n ≤ c ∧ c ≤ 9223372036854775807 ∧ Rd W' W'.heap.size A l ∧ ∀ p, A = some p → B ≤ p.block ∧ p.block < W'.heap.size
set_option maxRecDepth 100000 in
/-- a block that holds just these bytes -/
theorem Rd.block {w : World} {g : Nat} {l : List UInt8} {fr : Nat × Nat} (h : w.heap[g]? = some (.cells (cs l).toArray 5 fr)) : Rd w w.heap.size (some ⟨g, 0, none⟩) l := fun _ =>
  ⟨g, 0, rfl, (Array.getElem?_eq_some_iff.1 h).1, fun j hj => by
    rw [Nat.zero_add, cell_of_row _ _ _ _ _ _ h]
    simpa using cs_get l j hj⟩
set_option maxRecDepth 100000 in
theorem spl_length (L : List UInt8) (off : Nat) (l : List UInt8) (h : off + l.length ≤ L.length) : (spl L off l).length = L.length := by
  unfold spl
  rw [List.length_append, List.length_append, List.length_take, List.length_drop]
  omega
set_option maxRecDepth 100000 in
theorem copyB {ops : Array Oper} {rest : List Oper} {o : Oper} {a : Act} {Q : Exit → Act → World → Prop} (W : World) (d s : Operand) (g off : Nat) (cur l : List UInt8) (dp A : Option Addr) (dLen dCap sCap n : Nat)
    (hgd : o.guard = none) (ho : o.op = .call { callee := .builtin .copy, args := #[d, s], argTypes := #[22, 22] }) (hd : a.eval d = .slice dp dLen dCap) (hs : a.eval s = .slice A n sCap)
    (hg : W.heap[g]? = some (.cells (cs cur).toArray 5 (0, 0))) (hn : n = l.length) (hfit : off + l.length ≤ cur.length) (hdl : l.length ≤ dLen) (hdp : 0 < l.length → dp = some ⟨g, off, none⟩) (hr : Rd W W.heap.size A l)
    (B : Nat) (w0 : World) (hb : Below B w0 W) (hBg : B ≤ g)
    (h : ∀ w', Hid (w'.heap[g]? = some (.cells (cs (spl cur off l)).toArray 5 (0, 0))) → Below B w0 w' → wpList Tryd.prog ops Q rest (a.put o.dst (goInt l.length)) w') : wpList Tryd.prog ops Q (o :: rest) a W := by
  subst hn
  refine wpList_copy_splice hgd d s 22 22 ho 5 Tryd.underlying22 (by kernel_rfl) dp A dLen dCap l.length sCap hd hs g off (cs cur) 5 hg (cs l) (by rw [cs_length]; exact (Nat.min_eq_left hdl).symm) ?_ (by rw [cs_length, cs_length]; exact hfit) (cs_one l) B w0 hb hBg ?_
  · intro h0
    rw [cs_length] at h0
    obtain ⟨b, o, rfl, hbb, hc⟩ := hr h0
    refine ⟨hdp h0, _, rfl, fun j v hv => ?_⟩
    have hj : j < l.length := by
      have := (List.getElem?_eq_some_iff.1 hv).1
      simpa [cs] using this
    rw [cs_get l j hj] at hv
    rw [Addr.add_lit, hc j hj]
    exact hv
  · intro w' h1 h2
    rw [cs_length]
    exact h w' (by rw [cs_spl]; exact h1) h2

set_option maxRecDepth 100000 in
set_option maxHeartbeats 1000000 in
theorem join_any (A C : Option Addr) (l m : List UInt8) (c d : Nat) (w : World) (hl : l.length + m.length ≤ 1000000) (hr : Rd w w.heap.size A l) (hs : Rd w w.heap.size C m) :
    Calls Tryd.prog 47 #[.slice A l.length c, .slice C m.length d] w fun e w' => Ans1 w.heap.size w' e (l ++ m) (l.length + m.length) ∧ Below w.heap.size w w' := by
  obtain ⟨i0, hi, hz0, hz1, hz2⟩ := info_parts info5
  have HR := Lib.hid hr
  have HS := Lib.hid hs
  obtain ⟨n, hn⟩ : ∃ n, n = l.length := ⟨_, rfl⟩
  obtain ⟨k, hk⟩ : ∃ k, k = m.length := ⟨_, rfl⟩
  have HN := Lib.hid hn
  have HK := Lib.hid hk
  have hnk : n + k ≤ 1000000 := by omega
  rw [← hn, ← hk]
  clear hr hs hl hn hk
  go_enter Tryd.func47, Tryd.ntmps47
  have hm : (w.alloc (.cells (madeCells #[.int .u8 0] (n + k)) 5)).heap[w.heap.size]? = some (.cells (cs (List.replicate (n + k) 0)).toArray 5 (0, 0)) := by
    rw [madeB]; exact heap_alloc_new _ _
  have hb0 : Below w.heap.size w (w.alloc (.cells (madeCells #[.int .u8 0] (n + k)) 5)) := (Below.refl _ _).alloc (Nat.le_refl _) _
  have HM := Lib.hid hm
  have HB0 := Lib.hid hb0
  have e1 : n ≤ n + k := Nat.le_add_right _ _
  have HE := Lib.hid (show spl (spl (List.replicate (n + k) 0) 0 l) n m = l ++ m by
    have h1 : spl (List.replicate (n + k) 0) 0 l = l ++ List.replicate k 0 := by
      unfold spl
      rw [List.take_zero, List.nil_append, List.drop_replicate]
      congr 2
      have := HN.out
      omega
    rw [h1]
    unfold spl
    have := HN.out
    have := HK.out
    rw [List.take_append_of_le_length (by omega), List.take_of_length_le (by omega), List.drop_append, List.drop_of_length_le (by omega)]
    simp
    omega)
  clear hm hb0
  rcases Nat.eq_zero_or_pos k with hk0 | hk0'
  · subst hk0
    go_wp2_with (first
      | (at_make; refine wpList_make_row w rfl (.tmp 10) (.tmp 10) 22 rfl 5 i0 (.int .u8 0) Tryd.underlying22 hi hz0 hz1 rfl .i64 .i64 (n + 0) rfl rfl (by rw [hz2]; omega) (by omega) ?_; generalize w.alloc (.cells (madeCells #[.int .u8 0] (n + 0)) 5) = W1 at *)
      | (refine copyB W1 (.tmp 12) (.tmp 13) w.heap.size 0 _ l (some ⟨w.heap.size, 0, none⟩) A (n + 0) (n + 0) c n (by rfl) (by rfl) (by rfl) (by rfl) HM.out HN.out (by rw [List.length_replicate]; have := HN.out; omega) (by have := HN.out; omega) (fun _ => rfl) (HR.out.below HB0.out (Nat.le_refl _) |>.more HB0.out.size) w.heap.size w HB0.out (Nat.le_refl _) ?_; intro W2 HM2 hb2; have HB2 := Lib.hid hb2; clear hb2)
      | (refine copyB W2 (.tmp 18) (.tmp 19) w.heap.size n _ m (some ⟨w.heap.size, 0, none⟩) C 0 0 d 0 (by rfl) (by rfl) (by rfl) (by rfl) HM2.out HK.out (by rw [spl_length _ _ _ (by rw [List.length_replicate]; have := HN.out; omega), List.length_replicate]; have := HK.out; omega) (by have := HK.out; omega) (fun h => by first | rfl | (have := HK.out; omega)) (HS.out.below HB2.out (Nat.le_refl _) |>.more HB2.out.size) w.heap.size w HB2.out (Nat.le_refl _) ?_; intro W3 HM3 hb3; have HB3 := Lib.hid hb3; clear hb3))
    go_ret
    have h3 := HM3.out
    rw [HE.out] at h3
    exact ⟨⟨_, _, rfl, by have := HN.out; have := HK.out; omega, by omega, Rd.block h3, fun p hp => by cases hp; exact ⟨Nat.le_refl _, (Array.getElem?_eq_some_iff.1 h3).1⟩⟩, HB3.out⟩
  · have hk0 : ¬ k = 0 := by omega
    clear hk0'
    go_wp2_with (first
      | (at_make; refine wpList_make_row w rfl (.tmp 10) (.tmp 10) 22 rfl 5 i0 (.int .u8 0) Tryd.underlying22 hi hz0 hz1 rfl .i64 .i64 (n + k) rfl rfl (by rw [hz2]; omega) (by omega) ?_; generalize w.alloc (.cells (madeCells #[.int .u8 0] (n + k)) 5) = W1 at *)
      | (refine copyB W1 (.tmp 12) (.tmp 13) w.heap.size 0 _ l (some ⟨w.heap.size, 0, none⟩) A (n + k) (n + k) c n (by rfl) (by rfl) (by rfl) (by rfl) HM.out HN.out (by rw [List.length_replicate]; have := HN.out; omega) (by have := HN.out; omega) (fun _ => rfl) (HR.out.below HB0.out (Nat.le_refl _) |>.more HB0.out.size) w.heap.size w HB0.out (Nat.le_refl _) ?_; intro W2 HM2 hb2; have HB2 := Lib.hid hb2; clear hb2)
      | (refine copyB W2 (.tmp 18) (.tmp 19) w.heap.size n _ m (some ⟨w.heap.size, n, none⟩) C k k d k (by rfl) (by rfl) (by rfl) (by rfl) HM2.out HK.out (by rw [spl_length _ _ _ (by rw [List.length_replicate]; have := HN.out; omega), List.length_replicate]; have := HK.out; omega) (by have := HK.out; omega) (fun h => by first | rfl | (have := HK.out; omega)) (HS.out.below HB2.out (Nat.le_refl _) |>.more HB2.out.size) w.heap.size w HB2.out (Nat.le_refl _) ?_; intro W3 HM3 hb3; have HB3 := Lib.hid hb3; clear hb3)
      | (refine copyB W2 (.tmp 18) (.tmp 19) w.heap.size n _ m (some ⟨w.heap.size, 0, none⟩) C 0 0 d 0 (by rfl) (by rfl) (by rfl) (by rfl) HM2.out HK.out (by rw [spl_length _ _ _ (by rw [List.length_replicate]; have := HN.out; omega), List.length_replicate]; have := HK.out; omega) (by have := HK.out; omega) (fun h => by first | rfl | (have := HK.out; omega)) (HS.out.below HB2.out (Nat.le_refl _) |>.more HB2.out.size) w.heap.size w HB2.out (Nat.le_refl _) ?_; intro W3 HM3 hb3; have HB3 := Lib.hid hb3; clear hb3))
    go_ret
    have h3 := HM3.out
    rw [HE.out] at h3
    exact ⟨⟨_, _, rfl, by have := HN.out; have := HK.out; omega, by omega, Rd.block h3, fun p hp => by cases hp; exact ⟨Nat.le_refl _, (Array.getElem?_eq_some_iff.1 h3).1⟩⟩, HB3.out⟩

set_option maxRecDepth 100000 in
theorem own_any (A : Option Addr) (l : List UInt8) (c : Nat) (w : World) (hl : l.length ≤ 1000000) (hr : Rd w w.heap.size A l) :
    Calls Tryd.prog 49 #[.slice A l.length c] w fun e w' => Ans1 w.heap.size w' e l l.length ∧ Below w.heap.size w w' := by
  have HJ := Lib.hid (fun W h => join_any A none l [] c 0 W (by simpa using hl) h Rd.nil)
  have HR := Lib.hid hr
  clear hr
  go_enter Tryd.func49, Tryd.ntmps49
  go_wp2_with fail
  refine (HJ.out _ HR.out).mono ?_
  rintro e w1 ⟨⟨A1, c1, rfl, h1, h2, h3, h4⟩, hb⟩
  rw [List.append_nil] at h3
  have H3 := Lib.hid h3
  have H4 := Lib.hid h4
  clear h3 h4
  go_wp2_with fail
  go_ret
  exact ⟨⟨A1, c1, rfl, by simpa using h1, h2, H3.out, H4.out⟩, hb⟩
end Go.Proofs.YtfppcmhhbheaiaaDoor
/- sha.ending: what stands behind. -/

namespace Go.Proofs.YtfppcmhhbheaiaaDoor
open Go.RowKit

def padZ (r : Nat) : Nat := (64 - (r + 9) % 64) % 64
set_option maxRecDepth 100000 in
theorem padL_length (r n : Nat) : (padL r n).length = 9 + padZ r := by
  unfold padL be8 padZ
  simp only [List.length_cons, List.length_append, List.length_replicate, List.length_map, List.length_range]
  omega
set_option maxRecDepth 100000 in
theorem padL_head (r n : Nat) : (padL r n).getD 0 0 = 128 := rfl
set_option maxRecDepth 100000 in
theorem padL_mid (r n j : Nat) (h1 : 1 ≤ j) (h2 : j ≤ padZ r) : (padL r n).getD j 0 = 0 := by
  unfold padL
  obtain ⟨j, rfl⟩ : ∃ i, j = i + 1 := ⟨j - 1, by omega⟩
  rw [List.getD_cons_succ, List.getD_eq_getElem?_getD, List.getElem?_append_left (by rw [List.length_replicate]; unfold padZ at h2; omega), List.getElem?_replicate]
  split <;> rfl
set_option maxRecDepth 100000 in
theorem padL_tail (r n k : Nat) (h : k < 8) : (padL r n).getD (8 + padZ r - k) 0 = UInt8.ofNat (8 * n / 2 ^ (8 * k)) := by
  unfold padL
  have e : 8 + padZ r - k = (7 + padZ r - k) + 1 := by omega
  rw [e, List.getD_cons_succ, List.getD_eq_getElem?_getD, List.getElem?_append_right (by rw [List.length_replicate]; unfold padZ; omega), List.length_replicate]
  have e2 : 7 + padZ r - k - (64 - (r + 9) % 64) % 64 = 7 - k := by unfold padZ; omega
  rw [e2]
  unfold be8
  rw [List.getElem?_map, List.getElem?_range (by omega)]
  simp only [Option.map_some, Option.getD_some]
  congr 3
  omega

/-- what stands there behind k of the eight bytes -/
def padK (r n k j : Nat) : UInt8 := if j = 0 then 128 else if 9 + padZ r ≤ j + k then (padL r n).getD j 0 else 0

set_option maxRecDepth 100000 in
theorem Rd.ofRow {w : World} {g n : Nat} {t : TypeId} {l : List UInt8} (h : w.rowIs g t n (fun j => .int .u8 ((l.getD j 0).toNat : Int))) (hn : l.length = n) : Rd w w.heap.size (some ⟨g, 0, none⟩) l := fun _ =>
  ⟨g, 0, rfl, h.lt, fun j hj => by
    rw [Nat.zero_add, h.cell (by omega), List.getD_eq_getElem?_getD, List.getElem?_eq_getElem hj]
    rfl⟩
set_option maxRecDepth 100000 in
set_option maxHeartbeats 1000000 in
theorem ending_any (r n : Nat) (w : World) (hr : r ≤ 1000) (hn : n ≤ 1125899906842624) :
    Calls Tryd.prog 48 #[.int .i64 (r : Int), .int .i64 (n : Int)] w fun e w' => Ans1 w.heap.size w' e (padL r n) (padL r n).length ∧ Below w.heap.size w w' := by
  obtain ⟨i0, hi, hz0, hz1, hz2⟩ := info_parts info5
  obtain ⟨z, hz⟩ : ∃ z, z = padZ r := ⟨_, rfl⟩
  have hzl : z < 64 := by rw [hz]; unfold padZ; omega
  have hzi : (64 - ((r : Int) + 9) % 64) % 64 = (z : Int) := by rw [hz]; unfold padZ; omega
  have HZ := Lib.hid hz
  rw [padL_length, ← hz]
  clear hz
  go_enter Tryd.func48, Tryd.ntmps48
  have hrow := World.rowIs_made w (.int .u8 0) (9 + z) 5
  have hb0 : Below w.heap.size w (w.alloc (.cells (madeCells #[.int .u8 0] (9 + z)) 5)) := (Below.refl _ _).alloc (Nat.le_refl _) _
  have c0 := hrow.cell (i := 0) (by omega)
  have f0 := hrow.frozen 0
  have HB0 := Lib.hid hb0
  have HR0 := Lib.hid hrow
  clear hb0 hrow
  go_wp2_with (at_make; refine wpList_make_row w rfl (.tmp 17) (.tmp 17) 22 rfl 5 i0 (.int .u8 0) Tryd.underlying22 hi hz0 hz1 rfl .i64 .i64 (9 + z) rfl rfl (by rw [hz2]; omega) (by omega) ?_; generalize w.alloc (.cells (madeCells #[.int .u8 0] (9 + z)) 5) = W1 at *)
  go_loopw [24] (fun i wr => ∃ k : Nat, k ≤ 8 ∧ i = .int .i64 k ∧ wr.rowIs w.heap.size 5 (9 + z) (fun j => .int .u8 ((padK r n k j).toNat : Int)) ∧ Below w.heap.size w wr) (fun i _ => 8 - (intOf i).toNat)
  case atStart => exact ⟨0, by omega, rfl, (HR0.out.set 0 _).congr (fun j hj => by
      unfold padK
      by_cases h0 : j = 0
      · rw [if_pos h0, if_pos h0]; rfl
      · rw [if_neg h0, if_neg h0, if_neg (by rw [← HZ.out]; omega)]; rfl), HB0.out.setCell (Nat.le_refl _) _⟩
  case round =>
    obtain ⟨k, hk, rfl, hrow, hbel⟩ := hrel
    have HR := Lib.hid hrow
    have HB := Lib.hid hbel
    clear hrow hbel HR0 HB0 c0 f0
    by_cases hlt : k < 8
    · obtain ⟨p, hp⟩ : ∃ p, p = 8 + z - k := ⟨_, rfl⟩
      have c1 := HR.out.cell (i := p) (by omega)
      have f1 := HR.out.frozen p
      have hp1 : (p : Int) < 9 + (z : Int) := by omega
      have hp2 : 9 + (z : Int) - 1 - (k : Int) = (p : Int) := by omega
      have hp3 : 8 + (z : Int) - (k : Int) = (p : Int) := by omega
      have HP := Lib.hid hp
      clear hp
      go_wp2
      go_roundw
      case rel => exact ⟨k + 1, by omega, by go_num, (HR.out.set p _).congr (fun j hj => by
          have hz2 := HZ.out
          have hp := HP.out
          by_cases hjp : j = p
          · rw [if_pos hjp]
            have e : padK r n (k + 1) j = UInt8.ofNat (8 * n / 2 ^ (8 * k)) := by
              unfold padK
              rw [if_neg (by omega), if_pos (by omega), hjp, hp, hz2]
              exact padL_tail r n k hlt
            rw [e, UInt8.toNat_ofNat']
            congr 1
          · rw [if_neg hjp]
            have e : padK r n (k + 1) j = padK r n k j := by
              unfold padK
              by_cases h0 : j = 0
              · rw [if_pos h0, if_pos h0]
              · rw [if_neg h0, if_neg h0]
                by_cases h1 : 9 + padZ r ≤ j + k
                · rw [if_pos h1, if_pos (by omega)]
                · rw [if_neg h1, if_neg (by omega)]
            rw [e]), HB.out.setCell (Nat.le_refl _) _⟩
      case measure => simp [intOf]; omega
    · have hk8 : k = 8 := by omega
      have hrow := HR.out.congr (g := fun j => .int .u8 (((padL r n).getD j 0).toNat : Int)) (fun j hj => by
        have hz2 := HZ.out
        have e : padK r n k j = (padL r n).getD j 0 := by
          unfold padK
          rw [hk8]
          by_cases h0 : j = 0
          · rw [if_pos h0, h0]; rfl
          · rw [if_neg h0]
            by_cases h1 : 9 + padZ r ≤ j + 8
            · rw [if_pos h1]
            · rw [if_neg h1, padL_mid r n j (by omega) (by omega)]
        rw [e])
      have HRd := Lib.hid (Rd.ofRow hrow (by rw [padL_length, ← HZ.out]))
      clear hrow hk8
      go_wp2
      go_ret
      exact ⟨⟨_, _, rfl, Nat.le_refl _, by omega, HRd.out, fun p hp => by cases hp; exact ⟨Nat.le_refl _, HR.out.lt⟩⟩, HB.out⟩
end Go.Proofs.YtfppcmhhbheaiaaDoor
