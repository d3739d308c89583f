
/- Small callees: figure, half, sign, worth, power. -/
import Derived.Test.YtecdmdgpmbgaaaaDoorRows
import Derived.WalkKit
import Derived.WalkLawsBesides
import Derived.WalkSpells
import Derived.Lib.Hide
namespace Go.Proofs.YtecdmdgpmbgaaaaDoor
open Go.RowKit

theorem pow_pos' (n : Int) (j : Nat) (h1 : 1 ≤ n) : 1 ≤ n ^ j := by
  induction j with
  | zero => simp
  | succ j ih =>
    rw [Int.pow_succ]
    have := Int.mul_le_mul ih h1 (by omega) (by omega)
    omega

theorem pow_le_pow' (n : Int) (j k : Nat) (h1 : 1 ≤ n) (hjk : j ≤ k) : n ^ j ≤ n ^ k := by
  obtain ⟨d, rfl⟩ := Nat.exists_eq_add_of_le hjk
  rw [Int.pow_add]
  have a := pow_pos' n j h1
  have b := pow_pos' n d h1
  have := Int.mul_le_mul (Int.le_refl (n ^ j)) b (by omega) (by omega)
  omega

theorem pow_step (n p : Int) (j k : Nat) (h1 : 1 ≤ n) (hlt : j < k) (hp : Hid (p = n ^ j)) (h2 : Hid ((n ^ k : Int) ≤ 9223372036854775807)) : 0 ≤ p * n ∧ p * n ≤ 9223372036854775807 := by
  have e : p * n = n ^ (j + 1) := by rw [hp.out, Int.pow_succ]
  have a := pow_pos' n (j + 1) h1
  have b := pow_le_pow' n (j + 1) k h1 (by omega)
  have c := h2.out
  rw [e]
  omega

theorem figure_yes (r : Int) (w : World) (h1 : 48 ≤ r) (h2 : r ≤ 57) :
    Calls Tryd.prog 48 #[.int .i32 r] w fun e w' => e = .returned (.tuple #[.int .u8 (r - 48), .bool true]) ∧ w = w' := by
  go_enter Tryd.func48, Tryd.ntmps48
  go_wp2
  go_ret2
  exact ⟨by simp, rfl⟩

theorem figure_no (r : Int) (w : World) (h : r < 48 ∨ 57 < r) :
    Calls Tryd.prog 48 #[.int .i32 r] w fun e w' => e = .returned (.tuple #[.int .u8 0, .bool false]) ∧ w = w' := by
  rcases h with h | h
  · go_enter Tryd.func48, Tryd.ntmps48
    go_wp2
    go_ret2
    exact ⟨rfl, rfl⟩
  · have h' : 48 ≤ r := by omega
    go_enter Tryd.func48, Tryd.ntmps48
    go_wp2
    go_ret2
    exact ⟨rfl, rfl⟩

theorem sign_figure (c : Int) (w : World) (h1 : 0 ≤ c) (h2 : c < 10) :
    Calls Tryd.prog 35 #[.int .u8 c] w fun e w' => e = .returned (.int .u8 (c + 48)) ∧ w = w' := by
  go_enter Tryd.func35, Tryd.ntmps35
  go_wp2
  go_ret
  exact ⟨by simp; omega, rfl⟩

theorem sign_letter (c : Int) (w : World) (h1 : 10 ≤ c) (h2 : c < 16) :
    Calls Tryd.prog 35 #[.int .u8 c] w fun e w' => e = .returned (.int .u8 (c + 87)) ∧ w = w' := by
  go_enter Tryd.func35, Tryd.ntmps35
  go_wp2
  go_ret
  exact ⟨by simp; omega, rfl⟩

theorem power_any (n : Int) (k : Nat) (w : World) (h1 : 1 ≤ n) (h2 : (n ^ k : Int) ≤ 9223372036854775807) (hk : k ≤ 63) :
    Calls Tryd.prog 41 #[.int .i64 n, .int .i64 k] w fun e w' => e = .returned (.int .i64 (n ^ k)) ∧ w = w' := by
  have H2 := Lib.hid h2
  clear h2
  go_enter Tryd.func41, Tryd.ntmps41
  go_wp2
  go_loop [5, 6] (fun t i => ∃ (j : Nat) (p : Int), j ≤ k ∧ i = .int .i64 j ∧ t = .int .i64 p ∧ Hid (p = n ^ j)) (fun _ i => k - (intOf i).toNat)
  case atStart => exact ⟨0, 1, Nat.zero_le _, rfl, rfl, Lib.hid (by simp)⟩
  case round =>
    obtain ⟨j, p, hj, rfl, rfl, hp⟩ := hrel
    by_cases hlt : j < k
    · have hb := pow_step n p j k h1 hlt hp H2
      obtain ⟨b1, b2⟩ := hb
      go_wp2
      go_round
      case rel => exact ⟨j + 1, p * n, by omega, by go_num, rfl, Lib.hid (by rw [hp.out, Int.pow_succ])⟩
      case measure => simp [intOf]; omega
    · have hjk : j = k := by omega
      have hp' := hp.out
      rw [hjk] at hp'
      have HP := Lib.hid hp'
      clear hp' hjk hp
      go_wp2
      go_ret
      exact ⟨by rw [HP.out]; rfl, rfl⟩
end Go.Proofs.YtecdmdgpmbgaaaaDoor
