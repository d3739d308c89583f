
/- DigOrder's walk -/
import Derived.Test.YtgojmhfiikjpnaaAll
namespace Go.Proofs.Ytgojmhfiikjpnaa
open Go.RowKit

theorem ok_of_digE {n w : Int} (h : digE n w = 0) : digOk n w = true := by
  unfold digE at h
  by_cases h2 : digOk n w = true
  · exact h2
  · rw [if_neg h2] at h; omega
theorem ok_of_bigE {n w : Int} (h : bigE n w = 0) : bigOk n w = true := by
  unfold bigE at h
  by_cases h2 : bigOk n w = true
  · exact h2
  · rw [if_neg h2] at h; omega
theorem digOk_iff (n w : Int) : digOk n w = true ↔ 1 ≤ w ∧ w ≤ 18 ∧ 0 ≤ n ∧ n.toNat < 10 ^ w.toNat := by simp [digOk, and_assoc]
theorem bigOk_iff (n w : Int) : bigOk n w = true ↔ 1 ≤ w ∧ w ≤ 8 ∧ 0 ≤ n ∧ n.toNat < 256 ^ w.toNat := by simp [bigOk, and_assoc]

theorem dig_order (m n w : Int) (h1 : digE m w = 0) (h2 : digE n w = 0) : Op.bytesLess (digL m w) (digL n w) = decide (m < n) ∧ (digL m w == digL n w) = (m == n) := by
  have a := ok_of_digE h1
  have b := ok_of_digE h2
  unfold digL
  rw [if_pos a, if_pos b, dgL_less 48 10 (by omega) (by omega)]
  rw [digOk_iff] at a b
  rw [Nat.mod_eq_of_lt a.2.2.2, Nat.mod_eq_of_lt b.2.2.2]
  refine ⟨by rw [Bool.eq_iff_iff]; simp; omega, ?_⟩
  rw [Bool.eq_iff_iff]
  simp only [beq_iff_eq, dgL_inj 48 10 (by omega) (by omega)]
  rw [Nat.mod_eq_of_lt a.2.2.2, Nat.mod_eq_of_lt b.2.2.2]
  omega
theorem big_order (m n w : Int) (h1 : bigE m w = 0) (h2 : bigE n w = 0) : Op.bytesLess (bigL m w) (bigL n w) = decide (m < n) ∧ (bigL m w == bigL n w) = (m == n) := by
  have a := ok_of_bigE h1
  have b := ok_of_bigE h2
  unfold bigL
  rw [if_pos a, if_pos b, dgL_less 0 256 (by omega) (by omega)]
  rw [bigOk_iff] at a b
  rw [Nat.mod_eq_of_lt a.2.2.2, Nat.mod_eq_of_lt b.2.2.2]
  refine ⟨by rw [Bool.eq_iff_iff]; simp; omega, ?_⟩
  rw [Bool.eq_iff_iff]
  simp only [beq_iff_eq, dgL_inj 0 256 (by omega) (by omega)]
  rw [Nat.mod_eq_of_lt a.2.2.2, Nat.mod_eq_of_lt b.2.2.2]
  omega

end Go.Proofs.Ytgojmhfiikjpnaa
