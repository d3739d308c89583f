
/- Small callees: figure, half, sign, worth, power. -/
import Derived.Test.YtegekmgelnkdbaaRows
import Derived.WalkKit
import Derived.WalkLawsBesides
import Derived.WalkSpells
import Derived.Lib.Hide
namespace Go.Proofs.Ytegekmgelnkdbaa
open Go.RowKit

set_option maxRecDepth 100000 in
theorem pow_pos' (n : Int) (j : Nat) (h1 : 1 ≤ n) : 1 ≤ n ^ j := by
  induction j with
  | zero => simp
  | succ j ih =>
    rw [Int.pow_succ]
    have := Int.mul_le_mul ih h1 (by omega) (by omega)
    omega

set_option maxRecDepth 100000 in
theorem pow_le_pow' (n : Int) (j k : Nat) (h1 : 1 ≤ n) (hjk : j ≤ k) : n ^ j ≤ n ^ k := by
  obtain ⟨d, rfl⟩ := Nat.exists_eq_add_of_le hjk
  rw [Int.pow_add]
  have a := pow_pos' n j h1
  have b := pow_pos' n d h1
  have := Int.mul_le_mul (Int.le_refl (n ^ j)) b (by omega) (by omega)
  omega

set_option maxRecDepth 100000 in
theorem pow_step (n p : Int) (j k : Nat) (h1 : 1 ≤ n) (hlt : j < k) (hp : Hid (p = n ^ j)) (h2 : Hid ((n ^ k : Int) ≤ 9223372036854775807)) : 0 ≤ p * n ∧ p * n ≤ 9223372036854775807 := by
  have e : p * n = n ^ (j + 1) := by rw [hp.out, Int.pow_succ]
  have a := pow_pos' n (j + 1) h1
  have b := pow_le_pow' n (j + 1) k h1 (by omega)
  have c := h2.out
  rw [e]
  omega

end Go.Proofs.Ytegekmgelnkdbaa
