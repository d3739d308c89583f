
/- Structs in memory: cells that are no bytes; parts, alone. -/
import Derived.Test.YtegekmgelnkdbaaStr
namespace Go.Proofs.Ytegekmgelnkdbaa
open Go.RowKit

/-- no cell is a byte -/
def No8 (C : Array Value) : Prop := ∀ v ∈ C.toList, ∀ n, v ≠ .int .u8 n
set_option maxRecDepth 100000 in
theorem Rd.putX {w : World} {g o : Nat} {T : TypeId} {C : Array Value} {A : Option Addr} {l : List UInt8} (h : Rd w w.heap.size A l) (hg : Bx w g T C) (hn : No8 C) (D : List Value) : Rd (w.setCells g o D) (w.setCells g o D).heap.size A l := by
  intro h0
  obtain ⟨b, q, rfl, hb, hc⟩ := h h0
  have hne : b ≠ g := by
    rintro rfl
    have h1 := hc 0 h0
    rw [Nat.add_zero] at h1
    have h2 := (cell_of_row w b q C T (0, 0) hg).symm.trans h1
    rw [← Array.getElem?_toList] at h2
    exact hn _ (List.mem_of_getElem? h2) _ rfl
  have hs : ∀ (D : List Value) (o : Nat) (w : World), (w.setCells g o D).heap.size = w.heap.size := by
    intro D
    induction D with
    | nil => intro o w; rfl
    | cons v r ih => intro o w; rw [World.setCells, ih]; simp [World.setCell]
  exact ⟨b, q, rfl, by rw [hs]; exact hb, fun j hj => by rw [World.cell?_of_block (w := w) (a := ⟨b, q + j, none⟩) (setCells_block g D o w b hne)]; exact hc j hj⟩
set_option maxRecDepth 100000 in
theorem Rd.setRowX {w : World} {g : Nat} {T : TypeId} {C C' : Array Value} {A : Option Addr} {l : List UInt8} (h : Rd w w.heap.size A l) (hg : Bx w g T C) (hn : No8 C) : Rd (w.setRow g C') (w.setRow g C').heap.size A l := by
  intro h0
  obtain ⟨b, o, rfl, hb, hc⟩ := h h0
  have hne : b ≠ g := by
    rintro rfl
    have h1 := hc 0 h0
    rw [Nat.add_zero] at h1
    have h2 := (cell_of_row w b o C T (0, 0) hg).symm.trans h1
    rw [← Array.getElem?_toList] at h2
    exact hn _ (List.mem_of_getElem? h2) _ rfl
  have hs : (w.setRow g C').heap.size = w.heap.size := by simp [World.setRow]
  exact ⟨b, o, rfl, by rw [hs]; exact hb, fun j hj => by rw [World.cell?_of_block (w := w) (a := ⟨b, o + j, none⟩) (setRow_other w g b C' hne)]; exact hc j hj⟩
set_option maxRecDepth 100000 in
/-- a struct is stored, alone -/
theorem wp_storeX {o : Oper} {a : Act} {K : Act → World → Prop} {Q : Exit → Act → World → Prop} {W : World} {T : TypeId} {n : Nat} (p y : Operand) (g : Nat) (C old : Array Value) (ty : Ty T n) (hn : C.size = n) (h1 : C.all (·.oneCell') = true)
    (hg : Bx W g T old) (hold : old.size = n) (ho : o.op = .store T p y) (hx : a.eval p = .pointer (some ⟨g, 0, none⟩)) (hy : a.eval y = .agg C)
    (hK : K (a.put o.dst undef) (W.setRow g C)) : Oper.wp Try.prog o a W K Q :=
  wp_store_row T p y ho g C hx hy T old hg (by rw [hn]; exact ty.size) (by rw [hn]; exact hold) h1 hK
set_option maxRecDepth 100000 in
/-- a part is loaded, stored, alone -/
theorem wp_loadPw {op : Oper} {a : Act} {K : Act → World → Prop} {Q : Exit → Act → World → Prop} {W : World} {T U : TypeId} {m : Nat} (p : Operand) (g o : Nat) (C D : Array Value) (ty : Ty U m) (hm : D.size = m) (hP : Part C o D)
    (hg : Bx W g T C) (ho : op.op = .load U p) (hx : a.eval p = .pointer (some ⟨g, o, none⟩)) (hK : K (a.put op.dst (.agg D)) W) : Oper.wp Try.prog op a W K Q := by
  obtain ⟨⟨d, hu, hd⟩, hs⟩ := ty
  refine wp_load_mid (P := Try.prog) U p ho g o hx D.toList d (hg.range hP) hu hd (by rw [Array.length_toList, hm]; exact hs) ?_
  simpa using hK
set_option maxRecDepth 100000 in
theorem wp_storePw {op : Oper} {a : Act} {K : Act → World → Prop} {Q : Exit → Act → World → Prop} {W : World} {T U : TypeId} {m : Nat} (p y : Operand) (g o : Nat) (C D : Array Value) (ty : Ty U m) (hm : D.size = m) (h1 : D.all (·.oneCell') = true)
    (hg : Bx W g T C) (hC : o + m ≤ C.size) (ho : op.op = .store U p y) (hx : a.eval p = .pointer (some ⟨g, o, none⟩)) (hy : a.eval y = .agg D) (hK : K (a.put op.dst undef) (W.setCells g o D.toList)) : Oper.wp Try.prog op a W K Q := by
  refine wp_store_mid (P := Try.prog) U p y ho g o D hx hy (fun j hj => ?_) (by rw [hm]; exact ty.size) h1 hK
  refine ⟨?_, hg.thaw _⟩
  rw [hg.cell (Array.getElem?_eq_getElem (show o + j < C.size by omega))]
  rfl
end Go.Proofs.Ytegekmgelnkdbaa
