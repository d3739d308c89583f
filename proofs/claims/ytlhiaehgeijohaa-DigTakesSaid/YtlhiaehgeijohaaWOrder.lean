/- DigOrder's walk -/
import Derived.Test.YtlhiaehgeijohaaAll
namespace Go.Proofs.Ytlhiaehgeijohaa
open Go.RowKit

theorem ok_of_digE {n w : Int} (h : digE n w = 0) : digOk n w = true := by
  unfold digE at h
  by_cases h2 : digOk n w = true
  · exact h2
  · rw [if_neg h2] at h; omega
theorem ok_of_bigE {n w : Int} (h : bigE n w = 0) : bigOk n w = true := by
  unfold bigE at h
  by_cases h2 : bigOk n w = true
  · exact h2
  · rw [if_neg h2] at h; omega
theorem digOk_iff (n w : Int) : digOk n w = true ↔ 1 ≤ w ∧ w ≤ 18 ∧ 0 ≤ n ∧ n.toNat < 10 ^ w.toNat := by simp [digOk, and_assoc]
theorem bigOk_iff (n w : Int) : bigOk n w = true ↔ 1 ≤ w ∧ w ≤ 8 ∧ 0 ≤ n ∧ n.toNat < 256 ^ w.toNat := by simp [bigOk, and_assoc]

theorem dig_order (m n w : Int) (h1 : digE m w = 0) (h2 : digE n w = 0) : Op.bytesLess (digL m w) (digL n w) = decide (m < n) ∧ (digL m w == digL n w) = (m == n) := by
  have a := ok_of_digE h1
  have b := ok_of_digE h2
  unfold digL
  rw [if_pos a, if_pos b, dgL_less 48 10 (by omega) (by omega)]
  rw [digOk_iff] at a b
  rw [Nat.mod_eq_of_lt a.2.2.2, Nat.mod_eq_of_lt b.2.2.2]
  refine ⟨by rw [Bool.eq_iff_iff]; simp; omega, ?_⟩
  rw [Bool.eq_iff_iff]
  simp only [beq_iff_eq, dgL_inj 48 10 (by omega) (by omega)]
  rw [Nat.mod_eq_of_lt a.2.2.2, Nat.mod_eq_of_lt b.2.2.2]
  omega
theorem big_order (m n w : Int) (h1 : bigE m w = 0) (h2 : bigE n w = 0) : Op.bytesLess (bigL m w) (bigL n w) = decide (m < n) ∧ (bigL m w == bigL n w) = (m == n) := by
  have a := ok_of_bigE h1
  have b := ok_of_bigE h2
  unfold bigL
  rw [if_pos a, if_pos b, dgL_less 0 256 (by omega) (by omega)]
  rw [bigOk_iff] at a b
  rw [Nat.mod_eq_of_lt a.2.2.2, Nat.mod_eq_of_lt b.2.2.2]
  refine ⟨by rw [Bool.eq_iff_iff]; simp; omega, ?_⟩
  rw [Bool.eq_iff_iff]
  simp only [beq_iff_eq, dgL_inj 0 256 (by omega) (by omega)]
  rw [Nat.mod_eq_of_lt a.2.2.2, Nat.mod_eq_of_lt b.2.2.2]
  omega

set_option maxHeartbeats 1000000 in
theorem digOrder_walk (m n w : Int) (W : World) (hm0 : -9223372036854775808 ≤ m ∧ m ≤ 9223372036854775807) (hn0 : -9223372036854775808 ≤ n ∧ n ≤ 9223372036854775807) (_ : -9223372036854775808 ≤ w ∧ w ≤ 9223372036854775807) :
    Calls Try.prog 8 #[.int .i64 m, .int .i64 n, .int .i64 w] W fun e W' => e = .returned (.bool true) ∧ Below W.heap.size W W' := by
  have hm := hm0.2
  have hn := hn0.2
  clear hm0 hn0
  have hd := Lib.hid (dig_order m n w)
  have hb := Lib.hid (big_order m n w)
  have C1 := Lib.hid (fun W => digits_all m w W hm)
  have C2 := Lib.hid (fun W => digits_all n w W hn)
  have C3 := Lib.hid (fun W => big_all m w W hm)
  have C4 := Lib.hid (fun W => big_all n w W hn)
  generalize digL m w = d1 at *
  generalize digL n w = d2 at *
  generalize digE m w = e1 at *
  generalize digE n w = e2 at *
  generalize bigL m w = b1 at *
  generalize bigL n w = b2 at *
  generalize bigE m w = e3 at *
  generalize bigE n w = e4 at *
  go_enter Try.func8, Try.ntmps8
  go_wp2_with fail
  refine (shown_any _).mono ?_
  rintro e W1 ⟨rfl, hb1⟩
  have HB1 := Lib.hid hb1
  clear hb1
  go_wp2_with fail
  refine (C1.out _).mono ?_
  rintro e W2 ⟨rfl, hb2⟩
  have HB2 := Lib.hid (HB1.out.trans (hb2.mono HB1.out.size))
  clear hb2 HB1
  go_wp2_with fail
  refine (C2.out _).mono ?_
  rintro e W3 ⟨rfl, hb3⟩
  have HB3 := Lib.hid (HB2.out.trans (hb3.mono HB2.out.size))
  clear hb3 HB2
  go_wp2_with fail
  refine (C3.out _).mono ?_
  rintro e W4 ⟨⟨A, c, rfl, hc, hc2, hr⟩, hb4⟩
  have HB4 := Lib.hid (HB3.out.trans (hb4.mono HB3.out.size))
  have HR4 := Lib.hid hr
  clear hb4 HB3 hr
  go_wp2_with fail
  refine (C4.out _).mono ?_
  rintro e W5 ⟨⟨A', c', rfl, hc', hc2', hr'⟩, hb5⟩
  have HB5 := Lib.hid (HB4.out.trans (hb5.mono HB4.out.size))
  have s1 := run_str (P := Try.prog) (HR4.out.below hb5 (Nat.le_refl _)) c _ _ _ Try.underlying32 Try.underlying5 Try.underlying9
  have s2 := run_str (P := Try.prog) hr' c' _ _ _ Try.underlying32 Try.underlying5 Try.underlying9
  clear hb5 HB4 hr' HR4
  have z : ∀ e : Int, e = 0 ∨ ((e == 0) = false ∧ (e != 0) = true) := fun e => by
    by_cases h : e = 0
    · exact .inl h
    · right; simp [h]
  rcases z e1 with rfl | ⟨q1, q1'⟩
  · rcases z e2 with rfl | ⟨q2, q2'⟩
    · obtain ⟨x1, x2⟩ := hd.out rfl rfl
      rcases z e3 with rfl | ⟨q3, q3'⟩
      · rcases z e4 with rfl | ⟨q4, q4'⟩
        · obtain ⟨x3, x4⟩ := hb.out rfl rfl
          clear z
          go_wp2
          go_ret
          exact ⟨by simp, HB5.out⟩
        · clear z
          go_wp2
          go_ret
          exact ⟨by simp, HB5.out⟩
      · clear z
        go_wp2
        go_ret
        exact ⟨by simp, HB5.out⟩
    · rcases z e3 with rfl | ⟨q3, q3'⟩
      · rcases z e4 with rfl | ⟨q4, q4'⟩
        · obtain ⟨x3, x4⟩ := hb.out rfl rfl
          clear z
          go_wp2
          go_ret
          exact ⟨by simp, HB5.out⟩
        · clear z
          go_wp2
          go_ret
          exact ⟨by simp, HB5.out⟩
      · clear z
        go_wp2
        go_ret
        exact ⟨by simp, HB5.out⟩
  · rcases z e3 with rfl | ⟨q3, q3'⟩
    · rcases z e4 with rfl | ⟨q4, q4'⟩
      · obtain ⟨x3, x4⟩ := hb.out rfl rfl
        clear z
        go_wp2
        go_ret
        exact ⟨by simp, HB5.out⟩
      · clear z
        go_wp2
        go_ret
        exact ⟨by simp, HB5.out⟩
    · clear z
      go_wp2
      go_ret
      exact ⟨by simp, HB5.out⟩
end Go.Proofs.Ytlhiaehgeijohaa
