
/- Small callees: figure, half, sign, worth, power. -/
import Derived.Test.YtgojmhfiikjpnaaRows
import Derived.WalkKit
import Derived.WalkLawsBesides
import Derived.WalkSpells
import Derived.Lib.Hide
namespace Go.Proofs.Ytgojmhfiikjpnaa
open Go.RowKit

theorem pow_pos' (n : Int) (j : Nat) (h1 : 1 ≤ n) : 1 ≤ n ^ j := by
  induction j with
  | zero => simp
  | succ j ih =>
    rw [Int.pow_succ]
    have := Int.mul_le_mul ih h1 (by omega) (by omega)
    omega

theorem pow_le_pow' (n : Int) (j k : Nat) (h1 : 1 ≤ n) (hjk : j ≤ k) : n ^ j ≤ n ^ k := by
  obtain ⟨d, rfl⟩ := Nat.exists_eq_add_of_le hjk
  rw [Int.pow_add]
  have a := pow_pos' n j h1
  have b := pow_pos' n d h1
  have := Int.mul_le_mul (Int.le_refl (n ^ j)) b (by omega) (by omega)
  omega

theorem pow_step (n p : Int) (j k : Nat) (h1 : 1 ≤ n) (hlt : j < k) (hp : Hid (p = n ^ j)) (h2 : Hid ((n ^ k : Int) ≤ 9223372036854775807)) : 0 ≤ p * n ∧ p * n ≤ 9223372036854775807 := by
  have e : p * n = n ^ (j + 1) := by rw [hp.out, Int.pow_succ]
  have a := pow_pos' n (j + 1) h1
  have b := pow_le_pow' n (j + 1) k h1 (by omega)
  have c := h2.out
  rw [e]
  omega

theorem sign_figure (c : Int) (w : World) (h1 : 0 ≤ c) (h2 : c < 10) :
    Calls Try.prog 26 #[.int .u8 c] w fun e w' => e = .returned (.int .u8 (c + 48)) ∧ w = w' := by
  go_enter Try.func26, Try.ntmps26
  go_wp2
  go_ret
  exact ⟨by simp; omega, rfl⟩

theorem sign_letter (c : Int) (w : World) (h1 : 10 ≤ c) (h2 : c < 16) :
    Calls Try.prog 26 #[.int .u8 c] w fun e w' => e = .returned (.int .u8 (c + 87)) ∧ w = w' := by
  go_enter Try.func26, Try.ntmps26
  go_wp2
  go_ret
  exact ⟨by simp; omega, rfl⟩

end Go.Proofs.Ytgojmhfiikjpnaa
