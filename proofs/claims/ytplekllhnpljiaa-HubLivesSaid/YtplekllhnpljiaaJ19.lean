
/- sha.Block: the words behind a block. -/
import Derived.Test.YtplekllhnpljiaaJ18
import Derived.Deep.RegionWith
import Derived.Deep.Cut
import Derived.Deep.CutRange
import Derived.Deep.DeepCutAuto
import Derived.Deep.RegionHeld3
import Derived.Laws.CopyOwn
namespace Go.Proofs.Ytplekllhnpljiaa
open Go.RowKit

set_option maxRecDepth 100000 in
theorem Ks.alloc {w : World} (h : Ks w) (o : Obj) : Ks (w.alloc o) := h.below (Below.alloc (Below.refl w.heap.size w) (Nat.le_refl _) o) h.1
set_option maxRecDepth 100000 in
theorem Ks.drew {w : World} (h : Ks w) : Ks w.drew := h
set_option maxRecDepth 100000 in
theorem size_drew (w : World) : w.drew.heap.size = w.heap.size := rfl
set_option maxRecDepth 100000 in
theorem far {w : World} {p q : Addr} {v : Value} (h : q.block ≠ p.block) : (w.setCell p v).cell? q = w.cell? q := World.cell?_setCell_other _ _ _ _ (fun e => h (by rw [e]))
set_option maxRecDepth 100000 in
theorem alloc_far {w : World} {q : Addr} {o : Obj} (h : q.block < w.heap.size) : (w.alloc o).cell? q = w.cell? q := World.cell?_alloc_lt _ _ _ h
set_option maxRecDepth 100000 in
theorem cell_drew {w : World} {q : Addr} : w.drew.cell? q = w.cell? q := rfl
def Z8 : Array Value := #[.int .u32 0, .int .u32 0, .int .u32 0, .int .u32 0, .int .u32 0, .int .u32 0, .int .u32 0, .int .u32 0]
set_option maxRecDepth 100000 in
theorem alloc2 (w : World) (A B : Obj) : ((w.alloc A).alloc B).heap[w.heap.size]? = some A ∧ ((w.alloc A).alloc B).heap[w.heap.size + 1]? = some B ∧ ((w.alloc A).alloc B).heap.size = w.heap.size + 1 + 1 ∧ Below w.heap.size w ((w.alloc A).alloc B) := by
  have e1 : (w.alloc A).heap.size = w.heap.size + 1 := by rw [World.size_alloc]
  refine ⟨?_, ?_, by rw [World.size_alloc, e1], (((Below.refl _ _).alloc (Nat.le_refl _) _).alloc (by omega) _)⟩
  · rw [heap_alloc_old (h := by omega), heap_alloc_new]
  · rw [← e1, heap_alloc_new]
set_option maxRecDepth 100000 in
theorem bcell {W w1 : World} {B : Nat} (hb : Below B W w1) : (∀ b o, b < B → w1.cell? ⟨b, o, none⟩ = W.cell? ⟨b, o, none⟩) ∧ (∀ b o, b < B → w1.frozen? ⟨b, o, none⟩ = W.frozen? ⟨b, o, none⟩) :=
  ⟨fun b o h => hb.cell (p := ⟨b, o, none⟩) h, fun b o h => hb.frozen (p := ⟨b, o, none⟩) h⟩

def St.at (s : St) (j : Nat) : UInt32 := s.list.getD j 0
set_option maxRecDepth 100000 in
theorem row_of_st {w : World} {g : Nat} {t : TypeId} {s : St} (h : w.heap[g]? = some (.cells s.cells t (0, 0))) : w.rowIs g t 8 (fun j => wv (s.at j)) :=
  ⟨_, h, rfl, fun i hi => by
    match i, hi with
    | 0, _ => rfl | 1, _ => rfl | 2, _ => rfl | 3, _ => rfl | 4, _ => rfl | 5, _ => rfl | 6, _ => rfl | 7, _ => rfl
    | i + 8, hi => omega⟩
set_option maxRecDepth 100000 in
theorem st_of_row {w : World} {g : Nat} {t : TypeId} {s : St} (h : w.rowIs g t 8 (fun j => wv (s.at j))) : w.heap[g]? = some (.cells s.cells t (0, 0)) := by
  obtain ⟨c, h1, h2, h3⟩ := h
  have e : c = s.cells := by
    apply Array.ext_getElem?
    intro i
    by_cases hi : i < 8
    · rw [h3 i hi]
      match i, hi with
      | 0, _ => rfl | 1, _ => rfl | 2, _ => rfl | 3, _ => rfl | 4, _ => rfl | 5, _ => rfl | 6, _ => rfl | 7, _ => rfl
      | i + 8, hi => omega
    · rw [Array.getElem?_eq_none (by omega), Array.getElem?_eq_none (by simp [St.cells]; omega)]
  rw [h1, e]
set_option maxRecDepth 100000 in
theorem Ks.call {X w1 : World} (h : Ks X) (hb : Below X.heap.size X w1) : Ks w1 := h.below hb h.1
set_option maxRecDepth 100000 in
theorem bel_call {B : Nat} {w X w1 : World} (h : Below B w X) (hb : Below X.heap.size X w1) (hB : B ≤ X.heap.size) : Below B w w1 := h.trans (hb.mono hB)
set_option maxRecDepth 100000 in
theorem cells8 {w : World} {g : Nat} {s : St} {t : TypeId} {fr : Nat × Nat} (h : w.heap[g]? = some (.cells s.cells t fr)) :
    w.cell? ⟨g, 0, none⟩ = some (wv s.a) ∧ w.cell? ⟨g, 1, none⟩ = some (wv s.b) ∧ w.cell? ⟨g, 2, none⟩ = some (wv s.c) ∧ w.cell? ⟨g, 3, none⟩ = some (wv s.d) ∧ w.cell? ⟨g, 4, none⟩ = some (wv s.e) ∧ w.cell? ⟨g, 5, none⟩ = some (wv s.f) ∧ w.cell? ⟨g, 6, none⟩ = some (wv s.g) ∧ w.cell? ⟨g, 7, none⟩ = some (wv s.h) :=
  have hcl : ∀ j v, s.cells[j]? = some v → w.cell? ⟨g, j, none⟩ = some v := fun _j _v h' => (cell_of_row _ _ _ _ _ _ h).trans h'
  ⟨hcl 0 _ rfl, hcl 1 _ rfl, hcl 2 _ rfl, hcl 3 _ rfl, hcl 4 _ rfl, hcl 5 _ rfl, hcl 6 _ rfl, hcl 7 _ rfl⟩
set_option maxRecDepth 100000 in
theorem zeros8 {w : World} {g : Nat} {t : TypeId} (h : w.heap[g]? = some (.cells Z8 t (0, 0))) :
    (w.cell? ⟨g, 0, none⟩ = some (.int .u32 0) ∧ w.cell? ⟨g, 1, none⟩ = some (.int .u32 0) ∧ w.cell? ⟨g, 2, none⟩ = some (.int .u32 0) ∧ w.cell? ⟨g, 3, none⟩ = some (.int .u32 0) ∧ w.cell? ⟨g, 4, none⟩ = some (.int .u32 0) ∧ w.cell? ⟨g, 5, none⟩ = some (.int .u32 0) ∧ w.cell? ⟨g, 6, none⟩ = some (.int .u32 0) ∧ w.cell? ⟨g, 7, none⟩ = some (.int .u32 0)) ∧
    (w.frozen? ⟨g, 0, none⟩ = false ∧ w.frozen? ⟨g, 1, none⟩ = false ∧ w.frozen? ⟨g, 2, none⟩ = false ∧ w.frozen? ⟨g, 3, none⟩ = false ∧ w.frozen? ⟨g, 4, none⟩ = false ∧ w.frozen? ⟨g, 5, none⟩ = false ∧ w.frozen? ⟨g, 6, none⟩ = false ∧ w.frozen? ⟨g, 7, none⟩ = false) :=
  have hcl : ∀ j v, Z8[j]? = some v → w.cell? ⟨g, j, none⟩ = some v := fun _j _v h' => (cell_of_row _ _ _ _ _ _ h).trans h'
  have hf := fun j => frozen_of_row w g j _ _ h
  ⟨⟨hcl 0 _ rfl, hcl 1 _ rfl, hcl 2 _ rfl, hcl 3 _ rfl, hcl 4 _ rfl, hcl 5 _ rfl, hcl 6 _ rfl, hcl 7 _ rfl⟩, hf 0, hf 1, hf 2, hf 3, hf 4, hf 5, hf 6, hf 7⟩
/-- eight stores, one behind the other -/
def set8 (w : World) (g : Nat) (s : St) : World := (((((((w.setCell ⟨g, 0, none⟩ (wv s.a)).setCell ⟨g, 1, none⟩ (wv s.b)).setCell ⟨g, 2, none⟩ (wv s.c)).setCell ⟨g, 3, none⟩ (wv s.d)).setCell ⟨g, 4, none⟩ (wv s.e)).setCell ⟨g, 5, none⟩ (wv s.f)).setCell ⟨g, 6, none⟩ (wv s.g)).setCell ⟨g, 7, none⟩ (wv s.h)
set_option maxRecDepth 100000 in
theorem set8_same {w : World} {g : Nat} {t : TypeId} (s : St) (h : w.heap[g]? = some (.cells Z8 t (0, 0))) : (set8 w g s).heap[g]? = some (.cells s.cells t (0, 0)) := by
  have h0 := heap_setCell_same w g 0 _ t (wv s.a) h
  have h1 := heap_setCell_same _ g 1 _ t (wv s.b) h0
  have h2 := heap_setCell_same _ g 2 _ t (wv s.c) h1
  have h3 := heap_setCell_same _ g 3 _ t (wv s.d) h2
  have h4 := heap_setCell_same _ g 4 _ t (wv s.e) h3
  have h5 := heap_setCell_same _ g 5 _ t (wv s.f) h4
  have h6 := heap_setCell_same _ g 6 _ t (wv s.g) h5
  have h7 := heap_setCell_same _ g 7 _ t (wv s.h) h6
  unfold set8
  rw [h7]
  simp only [Z8, List.setIfInBounds_toArray, List.set_cons_zero, List.set_cons_succ, St.cells]
set_option maxRecDepth 100000 in
theorem set8_other {w : World} {g k : Nat} (s : St) (h : k ≠ g) : (set8 w g s).heap[k]? = w.heap[k]? := by
  unfold set8
  rw [heap_setCell_other _ _ _ _ h, heap_setCell_other _ _ _ _ h, heap_setCell_other _ _ _ _ h, heap_setCell_other _ _ _ _ h, heap_setCell_other _ _ _ _ h, heap_setCell_other _ _ _ _ h, heap_setCell_other _ _ _ _ h, heap_setCell_other _ _ _ _ h]
set_option maxRecDepth 100000 in
theorem Below.set8 {B : Nat} {a w : World} (h : Below B a w) {g : Nat} (hg : B ≤ g) (s : St) : Below B a (set8 w g s) :=
  (((((((h.setCell (p := ⟨g, 0, none⟩) hg _).setCell (p := ⟨g, 1, none⟩) hg _).setCell (p := ⟨g, 2, none⟩) hg _).setCell (p := ⟨g, 3, none⟩) hg _).setCell (p := ⟨g, 4, none⟩) hg _).setCell (p := ⟨g, 5, none⟩) hg _).setCell (p := ⟨g, 6, none⟩) hg _).setCell (p := ⟨g, 7, none⟩) hg _
set_option maxRecDepth 100000 in
theorem far1 {w : World} {o : Obj} {b j : Nat} {u : Value} (h : w.cell? ⟨b, j, none⟩ = some u) (hb : b < w.heap.size) : (w.alloc o).cell? ⟨b, j, none⟩ = some u := (alloc_far (q := ⟨b, j, none⟩) hb).trans h
set_option maxRecDepth 100000 in
theorem far1d {w : World} {o : Obj} {b j : Nat} {u : Value} (h : w.drew.cell? ⟨b, j, none⟩ = some u) (hb : b < w.heap.size) : (w.alloc o).drew.cell? ⟨b, j, none⟩ = some u := far1 (w := w) h hb
set_option maxRecDepth 100000 in
theorem far8 {w : World} {g b j : Nat} {v0 v1 v2 v3 v4 v5 v6 v7 u : Value} (h : w.cell? ⟨b, j, none⟩ = some u) (hb : b ≠ g) :
    ((((((((w.setCell ⟨g, 0, none⟩ v0).setCell ⟨g, 1, none⟩ v1).setCell ⟨g, 2, none⟩ v2).setCell ⟨g, 3, none⟩ v3).setCell ⟨g, 4, none⟩ v4).setCell ⟨g, 5, none⟩ v5).setCell ⟨g, 6, none⟩ v6).setCell ⟨g, 7, none⟩ v7).cell? ⟨b, j, none⟩ = some u := by
  rw [far hb, far hb, far hb, far hb, far hb, far hb, far hb, far hb]
  exact h
set_option maxRecDepth 100000 in
theorem Rd.alloc {w : World} {A : Option Addr} {l : List UInt8} (h : Rd w w.heap.size A l) (o : Obj) : Rd (w.alloc o) (w.alloc o).heap.size A l :=
  (h.below (Below.alloc (Below.refl w.heap.size w) (Nat.le_refl _) o) (Nat.le_refl _)).more (by rw [World.size_alloc]; omega)
set_option maxRecDepth 100000 in
theorem old_alloc {w : World} {g : Nat} {x : Obj} (h : w.heap[g]? = some x) (o : Obj) : (w.alloc o).heap[g]? = some x := (heap_alloc_old w o (Array.getElem?_eq_some_iff.1 h).1).trans h
set_option maxRecDepth 100000 in
theorem old_below {w w' : World} {g B : Nat} {x : Obj} (h : w.heap[g]? = some x) (hb : Below B w w') (hB : w.heap.size ≤ B) : w'.heap[g]? = some x := (hb.block g (Nat.lt_of_lt_of_le (Array.getElem?_eq_some_iff.1 h).1 hB)).trans h

end Go.Proofs.Ytplekllhnpljiaa
/- sha.join, sha.own, sha.ending. -/

namespace Go.Proofs.Ytplekllhnpljiaa
open Go.RowKit

set_option maxRecDepth 100000 in
theorem madeB (n : Nat) : madeCells #[Value.int .u8 0] n = (cs (List.replicate n 0)).toArray := by
  apply Array.ext_getElem?
  intro i
  by_cases hi : i < n
  · simp [madeCells, cs, hi, Nat.mod_one]
  · simp [madeCells, cs, hi]
/-- one row of bytes laid over another -/
def spl (L : List UInt8) (off : Nat) (l : List UInt8) : List UInt8 := L.take off ++ (l ++ L.drop (off + l.length))
set_option maxRecDepth 100000 in
theorem cs_spl (L : List UInt8) (off : Nat) (l : List UInt8) : cs (spl L off l) = splice (cs L) off (cs l) := by
  unfold spl splice cs
  rw [List.map_append, List.map_append, List.map_take, List.map_drop, List.length_map]
/-- a call's answer: one slice that reads as l -/
def Ans1 (B : Nat) (W' : World) (e : Ending) (l : List UInt8) (n : Nat) : Prop := ∃ A c, e = .returned (.slice A n c) ∧ n ≤ c ∧ c ≤ 9223372036854775807 ∧ Rd W' W'.heap.size A l ∧ ∀ p, A = some p → B ≤ p.block ∧ p.block < W'.heap.size
set_option maxRecDepth 100000 in
/-- a block that holds just these bytes -/
theorem Rd.block {w : World} {g : Nat} {l : List UInt8} {fr : Nat × Nat} (h : w.heap[g]? = some (.cells (cs l).toArray 5 fr)) : Rd w w.heap.size (some ⟨g, 0, none⟩) l := fun _ =>
  ⟨g, 0, rfl, (Array.getElem?_eq_some_iff.1 h).1, fun j hj => by
    rw [Nat.zero_add, cell_of_row _ _ _ _ _ _ h]
    simpa using cs_get l j hj⟩
set_option maxRecDepth 100000 in
theorem spl_length (L : List UInt8) (off : Nat) (l : List UInt8) (h : off + l.length ≤ L.length) : (spl L off l).length = L.length := by
  unfold spl
  rw [List.length_append, List.length_append, List.length_take, List.length_drop]
  omega
set_option maxRecDepth 100000 in
theorem copyB {ops : Array Oper} {rest : List Oper} {o : Oper} {a : Act} {Q : Exit → Act → World → Prop} (W : World) (d s : Operand) (g off : Nat) (cur l : List UInt8) (dp A : Option Addr) (dLen dCap sCap n : Nat)
    (hgd : o.guard = none) (ho : o.op = .call { callee := .builtin .copy, args := #[d, s], argTypes := #[23, 23] }) (hd : a.eval d = .slice dp dLen dCap) (hs : a.eval s = .slice A n sCap)
    (hg : W.heap[g]? = some (.cells (cs cur).toArray 5 (0, 0))) (hn : n = l.length) (hfit : off + l.length ≤ cur.length) (hdl : l.length ≤ dLen) (hdp : 0 < l.length → dp = some ⟨g, off, none⟩) (hr : Rd W W.heap.size A l)
    (B : Nat) (w0 : World) (hb : Below B w0 W) (hBg : B ≤ g)
    (h : ∀ w', Hid (w'.heap[g]? = some (.cells (cs (spl cur off l)).toArray 5 (0, 0))) → Below B w0 w' → wpList Try.prog ops Q rest (a.put o.dst (goInt l.length)) w') : wpList Try.prog ops Q (o :: rest) a W := by
  subst hn
  refine wpList_copy_splice hgd d s 23 23 ho 5 Try.underlying23 (by kernel_rfl) dp A dLen dCap l.length sCap hd hs g off (cs cur) 5 hg (cs l) (by rw [cs_length]; exact (Nat.min_eq_left hdl).symm) ?_ (by rw [cs_length, cs_length]; exact hfit) (cs_one l) B w0 hb hBg ?_
  · intro h0
    rw [cs_length] at h0
    obtain ⟨b, o, rfl, hbb, hc⟩ := hr h0
    refine ⟨hdp h0, _, rfl, fun j v hv => ?_⟩
    have hj : j < l.length := by
      have := (List.getElem?_eq_some_iff.1 hv).1
      simpa [cs] using this
    rw [cs_get l j hj] at hv
    rw [Addr.add_lit, hc j hj]
    exact hv
  · intro w' h1 h2
    rw [cs_length]
    exact h w' (by rw [cs_spl]; exact h1) h2

end Go.Proofs.Ytplekllhnpljiaa
/- sha.ending: what stands behind. -/

namespace Go.Proofs.Ytplekllhnpljiaa
open Go.RowKit

def padZ (r : Nat) : Nat := (64 - (r + 9) % 64) % 64
set_option maxRecDepth 100000 in
theorem padL_length (r n : Nat) : (padL r n).length = 9 + padZ r := by
  unfold padL be8 padZ
  simp only [List.length_cons, List.length_append, List.length_replicate, List.length_map, List.length_range]
  omega
set_option maxRecDepth 100000 in
theorem padL_head (r n : Nat) : (padL r n).getD 0 0 = 128 := rfl
set_option maxRecDepth 100000 in
theorem padL_mid (r n j : Nat) (h1 : 1 ≤ j) (h2 : j ≤ padZ r) : (padL r n).getD j 0 = 0 := by
  unfold padL
  obtain ⟨j, rfl⟩ : ∃ i, j = i + 1 := ⟨j - 1, by omega⟩
  rw [List.getD_cons_succ, List.getD_eq_getElem?_getD, List.getElem?_append_left (by rw [List.length_replicate]; unfold padZ at h2; omega), List.getElem?_replicate]
  split <;> rfl
set_option maxRecDepth 100000 in
theorem padL_tail (r n k : Nat) (h : k < 8) : (padL r n).getD (8 + padZ r - k) 0 = UInt8.ofNat (8 * n / 2 ^ (8 * k)) := by
  unfold padL
  have e : 8 + padZ r - k = (7 + padZ r - k) + 1 := by omega
  rw [e, List.getD_cons_succ, List.getD_eq_getElem?_getD, List.getElem?_append_right (by rw [List.length_replicate]; unfold padZ; omega), List.length_replicate]
  have e2 : 7 + padZ r - k - (64 - (r + 9) % 64) % 64 = 7 - k := by unfold padZ; omega
  rw [e2]
  unfold be8
  rw [List.getElem?_map, List.getElem?_range (by omega)]
  simp only [Option.map_some, Option.getD_some]
  congr 3
  omega

/-- what stands there behind k of the eight bytes -/
def padK (r n k j : Nat) : UInt8 := if j = 0 then 128 else if 9 + padZ r ≤ j + k then (padL r n).getD j 0 else 0

set_option maxRecDepth 100000 in
theorem Rd.ofRow {w : World} {g n : Nat} {t : TypeId} {l : List UInt8} (h : w.rowIs g t n (fun j => .int .u8 ((l.getD j 0).toNat : Int))) (hn : l.length = n) : Rd w w.heap.size (some ⟨g, 0, none⟩) l := fun _ =>
  ⟨g, 0, rfl, h.lt, fun j hj => by
    rw [Nat.zero_add, h.cell (by omega), List.getD_eq_getElem?_getD, List.getElem?_eq_getElem hj]
    rfl⟩
end Go.Proofs.Ytplekllhnpljiaa
