
/- field's shapes: between and its closure, shapeOf, mayBe. -/
import Derived.Test.YtecdmdgpmbgaaaaDoorFldC
namespace Go.Proofs.YtecdmdgpmbgaaaaDoor
open Go.RowKit

/-- from which sign to which -/
def loF (k : Nat) : UInt8 := if k ≤ 2 then 48 else if k ≤ 5 then 32 else 0
def hiF (k : Nat) : UInt8 := if k ≤ 2 then 57 else if k ≤ 5 then 126 else 255
theorem sgn_may (k : Nat) (c : UInt8) : (decide ((loF k).toNat ≤ c.toNat) && decide (c.toNat ≤ (hiF k).toNat)) = sgnF k c := by
  unfold loF hiF sgnF
  by_cases h : k ≤ 2
  · rw [if_pos h, if_pos h, if_pos h]; rfl
  · by_cases h5 : k ≤ 5
    · rw [if_neg h, if_neg h, if_neg h, if_pos h5, if_pos h5, if_pos h5]; rfl
    · rw [if_neg h, if_neg h, if_neg h, if_neg h5, if_neg h5, if_neg h5]
      have := c.toNat_lt
      rw [decide_eq_true (show (0 : UInt8).toNat ≤ c.toNat from Nat.zero_le _), decide_eq_true (show c.toNat ≤ (255 : UInt8).toNat from by show c.toNat ≤ 255; omega)]
      rfl
/-- the closure whose bounds lie in the blocks g and g + 1 -/
def mayV (g : Nat) : Value := .func (.func 46) #[] #[.pointer (some ⟨g, 0, none⟩), .pointer (some ⟨g + 1, 0, none⟩)]
def MayC (w : World) (g : Nat) (lo hi : UInt8) : Prop := w.heap[g]? = some (.cells #[.int .u8 (lo.toNat : Int)] 5 (0, 0)) ∧ w.heap[g + 1]? = some (.cells #[.int .u8 (hi.toNat : Int)] 5 (0, 0))
theorem MayC.old {w w' : World} {g : Nat} {lo hi : UInt8} {B : Nat} (h : MayC w g lo hi) (hb : Below B w w') (hB : w.heap.size ≤ B) : MayC w' g lo hi := ⟨old5 h.1 hb hB, old5 h.2 hb hB⟩
theorem cells1 {w : World} {g : Nat} {x : Value} {t : TypeId} {fr : Nat × Nat} (h : w.heap[g]? = some (.cells #[x] t fr)) : w.cell? ⟨g, 0, none⟩ = some x :=
  (cell_of_row _ _ _ _ _ _ h).trans rfl

theorem between_any (lo hi : UInt8) (W : World) :
    Calls Tryd.prog 37 #[.int .u8 (lo.toNat : Int), .int .u8 (hi.toNat : Int)] W fun e W' => (e = .returned (mayV W.heap.size) ∧ MayC W' W.heap.size lo hi) ∧ Below W.heap.size W W' := by
  have h1 := heap_alloc_new W (.cells #[.int .u8 (lo.toNat : Int)] 5)
  have h2 := heap_alloc_new (W.alloc (.cells #[.int .u8 (lo.toNat : Int)] 5)) (.cells #[.int .u8 (hi.toNat : Int)] 5)
  have h3 := heap_alloc_old (W.alloc (.cells #[.int .u8 (lo.toNat : Int)] 5)) (.cells #[.int .u8 (hi.toNat : Int)] 5) (show W.heap.size < (W.alloc (.cells #[.int .u8 (lo.toNat : Int)] 5)).heap.size by rw [World.size_alloc]; omega)
  rw [h1] at h3
  rw [World.size_alloc] at h2
  have HM := Lib.hid (show MayC ((W.alloc (.cells #[.int .u8 (lo.toNat : Int)] 5)).alloc (.cells #[.int .u8 (hi.toNat : Int)] 5)) W.heap.size lo hi from ⟨h3, h2⟩)
  have HB := Lib.hid (((Below.refl W.heap.size W).alloc (Nat.le_refl _) (.cells #[.int .u8 (lo.toNat : Int)] 5)).alloc (by rw [World.size_alloc]; omega) (.cells #[.int .u8 (hi.toNat : Int)] 5))
  clear h1 h2 h3
  go_enter Tryd.func37, Tryd.ntmps37
  go_wp2
  go_ret
  exact ⟨⟨rfl, HM.out⟩, HB.out⟩

theorem may_any (lo hi c : UInt8) (g : Nat) (W : World) (hM : MayC W g lo hi) :
    Calls Tryd.prog 46 #[.int .u8 (c.toNat : Int), .pointer (some ⟨g, 0, none⟩), .pointer (some ⟨g + 1, 0, none⟩)] W fun e W' => e = .returned (.bool (decide (lo.toNat ≤ c.toNat) && decide (c.toNat ≤ hi.toNat))) ∧ W = W' := by
  have c0 := cells1 hM.1
  have c1 := cells1 hM.2
  clear hM
  generalize lo.toNat = l at *
  generalize hi.toNat = h at *
  generalize c.toNat = x at *
  by_cases h1 : l ≤ x
  · have h1i : (l : Int) ≤ (x : Int) := by omega
    rw [decide_eq_true h1]
    by_cases h2 : x ≤ h
    · have h2i : (x : Int) ≤ (h : Int) := by omega
      rw [decide_eq_true h2]
      go_enter Tryd.func46, Tryd.ntmps46
      go_wp2
      go_ret
      exact ⟨rfl, rfl⟩
    · have h2i : ¬ (x : Int) ≤ (h : Int) := by omega
      rw [decide_eq_false h2]
      go_enter Tryd.func46, Tryd.ntmps46
      go_wp2
      go_ret
      exact ⟨rfl, rfl⟩
  · have h1i : ¬ (l : Int) ≤ (x : Int) := by omega
    rw [decide_eq_false h1]
    go_enter Tryd.func46, Tryd.ntmps46
    go_wp2
    go_ret
    exact ⟨rfl, rfl⟩
end Go.Proofs.YtecdmdgpmbgaaaaDoor
