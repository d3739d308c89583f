
/- The document's answers: TakeBig, Big, Hex, Unhex. -/
import Derived.Test.YtplekllhnpljiaaJ09
namespace Go.Proofs.Ytplekllhnpljiaa
open Go.RowKit

set_option maxRecDepth 100000 in
theorem numL_append (a b : List UInt8) : numL (a ++ b) = numL a * 256 ^ b.length + numL b := by
  induction b using snoc_ind with
  | h0 => simp [numL]
  | h1 b c ih =>
    rw [← List.append_assoc, numL_snoc, ih, numL_snoc, List.length_append, List.length_cons, List.length_nil, Nat.pow_add, Nat.mul_add, ← Nat.mul_assoc, Nat.mul_comm 256 (numL a), Nat.mul_assoc, Nat.mul_comm 256 (256 ^ b.length), ← Nat.mul_assoc]
    omega
set_option maxRecDepth 100000 in
theorem numL_take (l : List UInt8) (k : Nat) : numL (l.take k) ≤ numL l := by
  have h := numL_append (l.take k) (l.drop k)
  rw [List.take_append_drop] at h
  rw [h]
  have : numL (l.take k) * 1 ≤ numL (l.take k) * 256 ^ (l.drop k).length := Nat.mul_le_mul_left _ (Nat.pow_pos (by omega))
  omega
set_option maxRecDepth 100000 in
theorem numL_eight (l : List UInt8) (c : UInt8) (h8 : l.length = 8) (h : l[0]? = some c) : (128 ≤ c.toNat → ¬ numL l ≤ 9223372036854775807) ∧ (c.toNat < 128 → numL l ≤ 9223372036854775807) := by
  cases l with
  | nil => simp at h8
  | cons x t =>
    simp at h
    subst h
    simp only [List.length_cons] at h8
    have h7 : t.length = 7 := by omega
    have e := numL_append [x] t
    have hlt := numL_lt t
    rw [h7] at e hlt
    have e1 : numL [x] = x.toNat := by simp [numL]
    rw [List.singleton_append, e1] at e
    omega

set_option maxRecDepth 100000 in
theorem bigE_no {n w : Int} (h : ¬ bigOk n w = true) : bigL n w = [] ∧ bigE n w = 1 := by unfold bigL bigE; rw [if_neg h, if_neg h]; exact ⟨rfl, rfl⟩
set_option maxRecDepth 100000 in
theorem bigE_yes {n w : Nat} (h : bigOk n w = true) : bigL n w = dgL 0 256 n w ∧ bigE n w = 0 := by unfold bigL bigE; rw [if_pos h, if_pos h]; exact ⟨rfl, rfl⟩

def worthV (c : UInt8) : Nat := (gHalf c).getD 16
set_option maxRecDepth 100000 in
theorem worthV_some {c : UInt8} (h : worthV c ≤ 15) : ∃ v, gHalf c = some v ∧ worthV c = v := by
  unfold worthV at h ⊢
  cases hc : gHalf c with
  | none => rw [hc] at h; simp at h
  | some v => exact ⟨v, rfl, rfl⟩
set_option maxRecDepth 100000 in
theorem worthV_none {c : UInt8} (h : 15 < worthV c) : gHalf c = none := by
  unfold worthV at h
  cases hc : gHalf c with
  | none => rfl
  | some v => rw [hc] at h; have := (gHalf_w _ _ hc).1; simp at h; omega
set_option maxRecDepth 100000 in
theorem unpair_next (t : List UInt8) (k : Nat) (h2 : t.length % 2 = 0) (hk : 2 * k + 1 < t.length) (a b : UInt8) (x y : Nat) (ha : t[2 * k]? = some a) (hb : t[2 * k + 1]? = some b) (ga : gHalf a = some x) (gb : gHalf b = some y) :
    (packL gHalf t).take k ++ [UInt8.ofNat (16 * x + y)] = (packL gHalf t).take (k + 1) := by
  have hl : k < (packL gHalf t).length := by rw [packL_length]; omega
  rw [List.take_succ_eq_append_getElem hl, packL_get]
  congr 2
  have ea : t.getD (2 * k) 0 = a := by simp [List.getD, ha]
  have eb : t.getD (2 * k + 1) 0 = b := by simp [List.getD, hb]
  unfold pkAt hvF
  rw [h2, if_neg (by omega), if_neg (by omega), Nat.sub_zero, Nat.sub_zero, ea, eb, ga, gb]
  rfl

end Go.Proofs.Ytplekllhnpljiaa
