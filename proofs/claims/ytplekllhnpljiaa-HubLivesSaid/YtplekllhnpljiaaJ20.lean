
/- sha.blocks: the words behind all whole blocks, and what is left. -/
import Derived.Test.YtplekllhnpljiaaJ19
namespace Go.Proofs.Ytplekllhnpljiaa
open Go.RowKit

set_option maxRecDepth 100000 in
theorem frozen8 {w : World} {g : Nat} {t : TypeId} {c : Array Value} (h : w.heap[g]? = some (.cells c t (0, 0))) :
    w.frozen? ⟨g, 0, none⟩ = false ∧ w.frozen? ⟨g, 1, none⟩ = false ∧ w.frozen? ⟨g, 2, none⟩ = false ∧ w.frozen? ⟨g, 3, none⟩ = false ∧ w.frozen? ⟨g, 4, none⟩ = false ∧ w.frozen? ⟨g, 5, none⟩ = false ∧ w.frozen? ⟨g, 6, none⟩ = false ∧ w.frozen? ⟨g, 7, none⟩ = false :=
  have hf := fun j => frozen_of_row w g j _ _ h
  ⟨hf 0, hf 1, hf 2, hf 3, hf 4, hf 5, hf 6, hf 7⟩
set_option maxRecDepth 100000 in
theorem set8_st {w : World} {g : Nat} {t : TypeId} (s : St) {s0 : St} (h : w.heap[g]? = some (.cells s0.cells t (0, 0))) : (set8 w g s).heap[g]? = some (.cells s.cells t (0, 0)) := by
  have h0 := heap_setCell_same w g 0 _ t (wv s.a) h
  have h1 := heap_setCell_same _ g 1 _ t (wv s.b) h0
  have h2 := heap_setCell_same _ g 2 _ t (wv s.c) h1
  have h3 := heap_setCell_same _ g 3 _ t (wv s.d) h2
  have h4 := heap_setCell_same _ g 4 _ t (wv s.e) h3
  have h5 := heap_setCell_same _ g 5 _ t (wv s.f) h4
  have h6 := heap_setCell_same _ g 6 _ t (wv s.g) h5
  have h7 := heap_setCell_same _ g 7 _ t (wv s.h) h6
  unfold set8
  rw [h7]
  simp only [List.setIfInBounds_toArray, List.set_cons_zero, List.set_cons_succ, St.cells]

end Go.Proofs.Ytplekllhnpljiaa
/- sha.Put, sha.New, sha.Right. -/

namespace Go.Proofs.Ytplekllhnpljiaa
open Go.RowKit

/-- a digest under way, as cells -/
abbrev hcells (s : St) (N : Int) (r : Value) : Array Value := #[wv s.a, wv s.b, wv s.c, wv s.d, wv s.e, wv s.f, wv s.g, wv s.h, .int .i64 N, r]
abbrev hv (s : St) (N : Int) (r : Value) : Value := .agg (hcells s N r)
def Z10 : Array Value := #[.int .u32 0, .int .u32 0, .int .u32 0, .int .u32 0, .int .u32 0, .int .u32 0, .int .u32 0, .int .u32 0, .int .i64 0, .slice none 0 0]
/-- a call's answer: a digest under way -/
def AnsH (W' : World) (e : Ending) (s : St) (N : Int) (l : List UInt8) : Prop := ∃ A c, e = .returned (hv s N (.slice A l.length c)) ∧ l.length ≤ c ∧ c ≤ 9223372036854775807 ∧ Rd W' W'.heap.size A l
set_option maxRecDepth 100000 in
theorem cells10 {w : World} {g : Nat} {s : St} {N : Int} {r : Value} {t : TypeId} {fr : Nat × Nat} (h : w.heap[g]? = some (.cells (hcells s N r) t fr)) :
    w.cell? ⟨g, 0, none⟩ = some (wv s.a) ∧ w.cell? ⟨g, 1, none⟩ = some (wv s.b) ∧ w.cell? ⟨g, 2, none⟩ = some (wv s.c) ∧ w.cell? ⟨g, 3, none⟩ = some (wv s.d) ∧ w.cell? ⟨g, 4, none⟩ = some (wv s.e) ∧ w.cell? ⟨g, 5, none⟩ = some (wv s.f) ∧ w.cell? ⟨g, 6, none⟩ = some (wv s.g) ∧ w.cell? ⟨g, 7, none⟩ = some (wv s.h) ∧ w.cell? ⟨g, 8, none⟩ = some (.int .i64 N) ∧ w.cell? ⟨g, 9, none⟩ = some r :=
  have hcl : ∀ j v, (hcells s N r)[j]? = some v → w.cell? ⟨g, j, none⟩ = some v := fun _j _v h' => (cell_of_row _ _ _ _ _ _ h).trans h'
  ⟨hcl 0 _ rfl, hcl 1 _ rfl, hcl 2 _ rfl, hcl 3 _ rfl, hcl 4 _ rfl, hcl 5 _ rfl, hcl 6 _ rfl, hcl 7 _ rfl, hcl 8 _ rfl, hcl 9 _ rfl⟩

/-- ten stores, one behind the other -/
def setH (w : World) (g : Nat) (s : St) (N : Int) (r : Value) : World := ((((((((((w.setCell ⟨g, 0, none⟩ (wv s.a)).setCell ⟨g, 1, none⟩ (wv s.b)).setCell ⟨g, 2, none⟩ (wv s.c)).setCell ⟨g, 3, none⟩ (wv s.d)).setCell ⟨g, 4, none⟩ (wv s.e)).setCell ⟨g, 5, none⟩ (wv s.f)).setCell ⟨g, 6, none⟩ (wv s.g)).setCell ⟨g, 7, none⟩ (wv s.h)).setCell ⟨g, 8, none⟩ (.int .i64 N)).setCell ⟨g, 9, none⟩ r)
set_option maxRecDepth 100000 in
theorem setH_same {w : World} {g : Nat} {t : TypeId} {s0 : St} {N0 : Int} {r0 : Value} (s : St) (N : Int) (r : Value) (h : w.heap[g]? = some (.cells (hcells s0 N0 r0) t (0, 0))) : (setH w g s N r).heap[g]? = some (.cells (hcells s N r) t (0, 0)) := by
  have h0 := heap_setCell_same w g 0 _ t (wv s.a) h
  have h1 := heap_setCell_same _ g 1 _ t (wv s.b) h0
  have h2 := heap_setCell_same _ g 2 _ t (wv s.c) h1
  have h3 := heap_setCell_same _ g 3 _ t (wv s.d) h2
  have h4 := heap_setCell_same _ g 4 _ t (wv s.e) h3
  have h5 := heap_setCell_same _ g 5 _ t (wv s.f) h4
  have h6 := heap_setCell_same _ g 6 _ t (wv s.g) h5
  have h7 := heap_setCell_same _ g 7 _ t (wv s.h) h6
  have h8 := heap_setCell_same _ g 8 _ t (.int .i64 N) h7
  have h9 := heap_setCell_same _ g 9 _ t r h8
  unfold setH
  rw [h9]
  simp only [List.setIfInBounds_toArray, List.set_cons_zero, List.set_cons_succ, hcells]
set_option maxRecDepth 100000 in
theorem setH_other {w : World} {g k : Nat} (s : St) (N : Int) (r : Value) (h : k ≠ g) : (setH w g s N r).heap[k]? = w.heap[k]? := by
  unfold setH
  rw [heap_setCell_other _ _ _ _ h, heap_setCell_other _ _ _ _ h, heap_setCell_other _ _ _ _ h, heap_setCell_other _ _ _ _ h, heap_setCell_other _ _ _ _ h, heap_setCell_other _ _ _ _ h, heap_setCell_other _ _ _ _ h, heap_setCell_other _ _ _ _ h, heap_setCell_other _ _ _ _ h, heap_setCell_other _ _ _ _ h]
set_option maxRecDepth 100000 in
theorem Below.setH {B : Nat} {a w : World} (h : Below B a w) {g : Nat} (hg : B ≤ g) (s : St) (N : Int) (r : Value) : Below B a (setH w g s N r) :=
  ((((((((((h.setCell (p := ⟨g, 0, none⟩) hg _).setCell (p := ⟨g, 1, none⟩) hg _).setCell (p := ⟨g, 2, none⟩) hg _).setCell (p := ⟨g, 3, none⟩) hg _).setCell (p := ⟨g, 4, none⟩) hg _).setCell (p := ⟨g, 5, none⟩) hg _).setCell (p := ⟨g, 6, none⟩) hg _).setCell (p := ⟨g, 7, none⟩) hg _).setCell (p := ⟨g, 8, none⟩) hg _).setCell (p := ⟨g, 9, none⟩) hg _)
set_option maxRecDepth 100000 in
theorem Rd.setH {w : World} {A : Option Addr} {l : List UInt8} {g : Nat} (h : Rd w w.heap.size A l) (s : St) (N : Int) (r : Value) (hne : ∀ p, A = some p → p.block ≠ g) : Rd (setH w g s N r) (setH w g s N r).heap.size A l := by
  intro h0
  obtain ⟨b, o, e, hb, hc⟩ := h h0
  have hbg : b ≠ g := hne _ e
  have hs : (Go.Proofs.Ytplekllhnpljiaa.setH w g s N r).heap[b]? = w.heap[b]? := setH_other s N r hbg
  refine ⟨b, o, e, ?_, fun j hj => ?_⟩
  · have hsz := (Below.setH (Below.refl 0 w) (Nat.zero_le g) s N r).size
    omega
  · rw [World.cell?_of_block (w := w) (a := ⟨b, o + j, none⟩) hs]
    exact hc j hj
set_option maxRecDepth 100000 in
theorem far10 {w : World} {g b j : Nat} {x0 x1 x2 x3 x4 x5 x6 x7 x8 x9 u : Value} (h : w.cell? ⟨b, j, none⟩ = some u) (hb : b ≠ g) :
    ((((((((((w.setCell ⟨g, 0, none⟩ x0).setCell ⟨g, 1, none⟩ x1).setCell ⟨g, 2, none⟩ x2).setCell ⟨g, 3, none⟩ x3).setCell ⟨g, 4, none⟩ x4).setCell ⟨g, 5, none⟩ x5).setCell ⟨g, 6, none⟩ x6).setCell ⟨g, 7, none⟩ x7).setCell ⟨g, 8, none⟩ x8).setCell ⟨g, 9, none⟩ x9).cell? ⟨b, j, none⟩ = some u := by
  rw [far hb, far hb, far hb, far hb, far hb, far hb, far hb, far hb, far hb, far hb]
  exact h
set_option maxRecDepth 100000 in
theorem frozen10 {w : World} {g : Nat} {t : TypeId} {c : Array Value} (h : w.heap[g]? = some (.cells c t (0, 0))) :
    w.frozen? ⟨g, 0, none⟩ = false ∧ w.frozen? ⟨g, 1, none⟩ = false ∧ w.frozen? ⟨g, 2, none⟩ = false ∧ w.frozen? ⟨g, 3, none⟩ = false ∧ w.frozen? ⟨g, 4, none⟩ = false ∧ w.frozen? ⟨g, 5, none⟩ = false ∧ w.frozen? ⟨g, 6, none⟩ = false ∧ w.frozen? ⟨g, 7, none⟩ = false ∧ w.frozen? ⟨g, 8, none⟩ = false ∧ w.frozen? ⟨g, 9, none⟩ = false :=
  have hf := fun j => frozen_of_row w g j _ _ h
  ⟨hf 0, hf 1, hf 2, hf 3, hf 4, hf 5, hf 6, hf 7, hf 8, hf 9⟩
def S00 : St := ⟨0, 0, 0, 0, 0, 0, 0, 0⟩
end Go.Proofs.Ytplekllhnpljiaa
/- sha.Put where there is room. -/

namespace Go.Proofs.Ytplekllhnpljiaa
open Go.RowKit

set_option maxRecDepth 100000 in
theorem Rd.set8 {w : World} {A : Option Addr} {l : List UInt8} {g : Nat} (h : Rd w w.heap.size A l) (s : St) (hne : ∀ p, A = some p → p.block ≠ g) : Rd (set8 w g s) (set8 w g s).heap.size A l := by
  intro h0
  obtain ⟨b, o, e, hb, hc⟩ := h h0
  have hbg : b ≠ g := hne _ e
  have hs : (Go.Proofs.Ytplekllhnpljiaa.set8 w g s).heap[b]? = w.heap[b]? := set8_other s hbg
  refine ⟨b, o, e, ?_, fun j hj => ?_⟩
  · have hsz := (Below.set8 (Below.refl 0 w) (Nat.zero_le g) s).size
    omega
  · rw [World.cell?_of_block (w := w) (a := ⟨b, o + j, none⟩) hs]
    exact hc j hj

/-- a call's answer: a digest under way, the rest in a block of its own -/
def AnsHF (B : Nat) (W' : World) (e : Ending) (s : St) (N : Int) (l : List UInt8) : Prop := ∃ A c, e = .returned (hv s N (.slice A l.length c)) ∧ l.length ≤ c ∧ c ≤ 9223372036854775807 ∧ Rd W' W'.heap.size A l ∧ ∀ p, A = some p → B ≤ p.block

end Go.Proofs.Ytplekllhnpljiaa
