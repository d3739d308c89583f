
/- BitmapPlaces' walk. -/
import Derived.Test.YtgojmhfiikjpnaaBmS
namespace Go.Proofs.Ytgojmhfiikjpnaa
open Go.RowKit

theorem pl_in {n : Int} (h1 : 1 ≤ n) (h2 : n ≤ 128) : 0 ≤ plI n ∧ plI n ≤ 15 ∧ 1 ≤ plB n := by
  unfold plI plB
  rw [if_pos ⟨h1, h2⟩, if_pos ⟨h1, h2⟩]
  exact ⟨by omega, by omega, Nat.pow_pos (by decide)⟩
theorem pl_out {n : Int} (h : n < 1 ∨ 128 < n) : plI n = 0 ∧ plB n = 0 := by
  unfold plI plB
  rw [if_neg (by omega), if_neg (by omega)]
  exact ⟨rfl, rfl⟩
theorem pl_less {m n : Int} (h1 : 1 ≤ m) (h2 : m < n) (h3 : n ≤ 128) : plI m < plI n ∨ plI m = plI n ∧ plB n < plB m := by
  unfold plI plB
  have a : 1 ≤ m ∧ m ≤ 128 := by omega
  have b : 1 ≤ n ∧ n ≤ 128 := by omega
  simp only [if_pos a, if_pos b]
  by_cases h : (m - 1) / 8 < (n - 1) / 8
  · exact .inl h
  · refine .inr ⟨by omega, ?_⟩
    exact Nat.pow_lt_pow_right (by decide) (by omega)
set_option maxRecDepth 100000 in
set_option maxHeartbeats 4000000 in
theorem bitmapPlaces_walk (m n : Int) (W : World) (hm : -9223372036854775808 ≤ m ∧ m ≤ 9223372036854775807) (hn : -9223372036854775808 ≤ n ∧ n ≤ 9223372036854775807) :
    Calls Try.prog 7 #[.int .i64 m, .int .i64 n] W fun e W' => e = .returned (.bool true) ∧ Below W.heap.size W W' := by
  have C1 := Lib.hid (fun w => bPlace_any m hm w)
  have C2 := Lib.hid (fun w => bPlace_any n hn w)
  by_cases hin : m < 1 ∨ 128 < m
  · obtain ⟨e1, e2⟩ := pl_out hin
    rw [e1, e2] at C1
    clear e1 e2
    generalize plI n = k at *
    generalize plB n = b at *
    by_cases h1 : m < 1
    · have d1 : ¬ 1 ≤ m := by omega
      have d2 : decide (1 ≤ m) = false := decide_eq_false d1
      clear hin
      have HB := Lib.hid (Below.refl W.heap.size W)
      go_enter Try.func7, Try.ntmps7
      go_wp2_with fail
      refine (shown6_any _).mono ?_
      rintro e w1 ⟨rfl, hb⟩
      have nHB := Lib.hid (belG HB.out hb HB.out.size)
      clear hb
      clear HB 
      have HB := nHB
      clear nHB 
      go_wp2_with fail
      refine (C1.out _).mono ?_
      rintro e w2 ⟨rfl, hb⟩
      have nHB := Lib.hid (belG HB.out hb HB.out.size)
      clear hb
      clear HB 
      have HB := nHB
      clear nHB 
      go_wp2_with fail
      refine (C2.out _).mono ?_
      rintro e w3 ⟨rfl, hb⟩
      have nHB := Lib.hid (belG HB.out hb HB.out.size)
      clear hb
      clear HB 
      have HB := nHB
      clear nHB 
      go_wp2_with fail
      go_ret
      exact ⟨by first | rfl | simp, HB.out⟩
    · have h2 : 128 < m := by omega
      have d1 : 1 ≤ m := by omega
      have d2 : decide (1 ≤ m) = true := decide_eq_true d1
      have d3 : decide (m ≤ 128) = false := decide_eq_false (by omega)
      clear hin
      have HB := Lib.hid (Below.refl W.heap.size W)
      go_enter Try.func7, Try.ntmps7
      go_wp2_with fail
      refine (shown6_any _).mono ?_
      rintro e w1 ⟨rfl, hb⟩
      have nHB := Lib.hid (belG HB.out hb HB.out.size)
      clear hb
      clear HB 
      have HB := nHB
      clear nHB 
      go_wp2_with fail
      refine (C1.out _).mono ?_
      rintro e w2 ⟨rfl, hb⟩
      have nHB := Lib.hid (belG HB.out hb HB.out.size)
      clear hb
      clear HB 
      have HB := nHB
      clear nHB 
      go_wp2_with fail
      refine (C2.out _).mono ?_
      rintro e w3 ⟨rfl, hb⟩
      have nHB := Lib.hid (belG HB.out hb HB.out.size)
      clear hb
      clear HB 
      have HB := nHB
      clear nHB 
      go_wp2_with fail
      go_ret
      exact ⟨by first | rfl | simp, HB.out⟩
  have m1 : 1 ≤ m := by omega
  have m2 : m ≤ 128 := by omega
  have d1 : decide (1 ≤ m) = true := decide_eq_true m1
  have d2 : decide (m ≤ 128) = true := decide_eq_true m2
  obtain ⟨p1, p2, p3⟩ := pl_in m1 m2
  clear hin
  by_cases hno : n < 1 ∨ 128 < n
  · generalize plI n = k at *
    generalize plB n = b at *
    generalize plI m = i at *
    generalize plB m = a at *
    have q1 : ((a : Int) != 0) = true := by rw [bne_iff_ne]; omega
    have q2 : decide (i < 0) = false := decide_eq_false (by omega)
    have q3 : decide (15 < i) = false := decide_eq_false (by omega)
    by_cases h1 : n < 1
    · have e1 : decide (n < 1) = true := decide_eq_true h1
      clear hno
      have HB := Lib.hid (Below.refl W.heap.size W)
      go_enter Try.func7, Try.ntmps7
      go_wp2_with fail
      refine (shown6_any _).mono ?_
      rintro e w1 ⟨rfl, hb⟩
      have nHB := Lib.hid (belG HB.out hb HB.out.size)
      clear hb
      clear HB 
      have HB := nHB
      clear nHB 
      go_wp2_with fail
      refine (C1.out _).mono ?_
      rintro e w2 ⟨rfl, hb⟩
      have nHB := Lib.hid (belG HB.out hb HB.out.size)
      clear hb
      clear HB 
      have HB := nHB
      clear nHB 
      go_wp2_with fail
      refine (C2.out _).mono ?_
      rintro e w3 ⟨rfl, hb⟩
      have nHB := Lib.hid (belG HB.out hb HB.out.size)
      clear hb
      clear HB 
      have HB := nHB
      clear nHB 
      go_wp2_with fail
      go_ret
      exact ⟨by first | rfl | simp, HB.out⟩
    · have e1 : decide (n < 1) = false := decide_eq_false h1
      have e2 : decide (128 < n) = true := decide_eq_true (by omega)
      clear hno
      have HB := Lib.hid (Below.refl W.heap.size W)
      go_enter Try.func7, Try.ntmps7
      go_wp2_with fail
      refine (shown6_any _).mono ?_
      rintro e w1 ⟨rfl, hb⟩
      have nHB := Lib.hid (belG HB.out hb HB.out.size)
      clear hb
      clear HB 
      have HB := nHB
      clear nHB 
      go_wp2_with fail
      refine (C1.out _).mono ?_
      rintro e w2 ⟨rfl, hb⟩
      have nHB := Lib.hid (belG HB.out hb HB.out.size)
      clear hb
      clear HB 
      have HB := nHB
      clear nHB 
      go_wp2_with fail
      refine (C2.out _).mono ?_
      rintro e w3 ⟨rfl, hb⟩
      have nHB := Lib.hid (belG HB.out hb HB.out.size)
      clear hb
      clear HB 
      have HB := nHB
      clear nHB 
      go_wp2_with fail
      go_ret
      exact ⟨by first | rfl | simp, HB.out⟩
  have n1 : 1 ≤ n := by omega
  have n2 : n ≤ 128 := by omega
  have e1 : decide (n < 1) = false := decide_eq_false (by omega)
  have e2 : decide (128 < n) = false := decide_eq_false (by omega)
  clear hno
  by_cases hmn : m = n
  · subst hmn
    generalize plI m = i at *
    generalize plB m = a at *
    have q1 : ((a : Int) != 0) = true := by rw [bne_iff_ne]; omega
    have q2 : decide (i < 0) = false := decide_eq_false (by omega)
    have q3 : decide (15 < i) = false := decide_eq_false (by omega)
    have q4 : decide (m < m) = false := decide_eq_false (by omega)
    have HB := Lib.hid (Below.refl W.heap.size W)
    go_enter Try.func7, Try.ntmps7
    go_wp2_with fail
    refine (shown6_any _).mono ?_
    rintro e w1 ⟨rfl, hb⟩
    have nHB := Lib.hid (belG HB.out hb HB.out.size)
    clear hb
    clear HB 
    have HB := nHB
    clear nHB 
    go_wp2_with fail
    refine (C1.out _).mono ?_
    rintro e w2 ⟨rfl, hb⟩
    have nHB := Lib.hid (belG HB.out hb HB.out.size)
    clear hb
    clear HB 
    have HB := nHB
    clear nHB 
    go_wp2_with fail
    refine (C2.out _).mono ?_
    rintro e w3 ⟨rfl, hb⟩
    have nHB := Lib.hid (belG HB.out hb HB.out.size)
    clear hb
    clear HB 
    have HB := nHB
    clear nHB 
    go_wp2_with fail
    go_ret
    exact ⟨by first | rfl | simp, HB.out⟩
  have hneq : (m == n) = false := beq_eq_false_iff_ne.2 hmn
  by_cases hlt : m < n
  · have hl := pl_less m1 hlt n2
    have q5 : decide (n < m) = false := decide_eq_false (by omega)
    generalize plI n = k at *
    generalize plB n = b at *
    generalize plI m = i at *
    generalize plB m = a at *
    have q1 : ((a : Int) != 0) = true := by rw [bne_iff_ne]; omega
    have q2 : decide (i < 0) = false := decide_eq_false (by omega)
    have q3 : decide (15 < i) = false := decide_eq_false (by omega)
    by_cases hik : i < k
    · have q6 : (i == k) = false := beq_eq_false_iff_ne.2 (by omega)
      have q7 : decide (i < k) = true := decide_eq_true hik
      clear hl hmn
      have HB := Lib.hid (Below.refl W.heap.size W)
      go_enter Try.func7, Try.ntmps7
      go_wp2_with fail
      refine (shown6_any _).mono ?_
      rintro e w1 ⟨rfl, hb⟩
      have nHB := Lib.hid (belG HB.out hb HB.out.size)
      clear hb
      clear HB 
      have HB := nHB
      clear nHB 
      go_wp2_with fail
      refine (C1.out _).mono ?_
      rintro e w2 ⟨rfl, hb⟩
      have nHB := Lib.hid (belG HB.out hb HB.out.size)
      clear hb
      clear HB 
      have HB := nHB
      clear nHB 
      go_wp2_with fail
      refine (C2.out _).mono ?_
      rintro e w3 ⟨rfl, hb⟩
      have nHB := Lib.hid (belG HB.out hb HB.out.size)
      clear hb
      clear HB 
      have HB := nHB
      clear nHB 
      go_wp2_with fail
      go_ret
      exact ⟨by first | rfl | simp, HB.out⟩
    · have hik2 : i = k := by omega
      have q6 : (i == k) = true := beq_iff_eq.2 hik2
      have q7 : decide (i < k) = false := decide_eq_false hik
      have q8 : ((a : Int) == (b : Int)) = false := beq_eq_false_iff_ne.2 (by omega)
      have q9 : decide ((b : Int) ≤ (a : Int)) = true := decide_eq_true (by omega)
      have qa : decide (b ≤ a) = true := decide_eq_true (by omega)
      have qb : (a == b) = false := beq_eq_false_iff_ne.2 (by omega)
      clear hl hmn hik2
      have HB := Lib.hid (Below.refl W.heap.size W)
      go_enter Try.func7, Try.ntmps7
      go_wp2_with fail
      refine (shown6_any _).mono ?_
      rintro e w1 ⟨rfl, hb⟩
      have nHB := Lib.hid (belG HB.out hb HB.out.size)
      clear hb
      clear HB 
      have HB := nHB
      clear nHB 
      go_wp2_with fail
      refine (C1.out _).mono ?_
      rintro e w2 ⟨rfl, hb⟩
      have nHB := Lib.hid (belG HB.out hb HB.out.size)
      clear hb
      clear HB 
      have HB := nHB
      clear nHB 
      go_wp2_with fail
      refine (C2.out _).mono ?_
      rintro e w3 ⟨rfl, hb⟩
      have nHB := Lib.hid (belG HB.out hb HB.out.size)
      clear hb
      clear HB 
      have HB := nHB
      clear nHB 
      go_wp2_with fail
      go_ret
      exact ⟨by first | rfl | simp, HB.out⟩
  have hgt : n < m := by omega
  have hl := pl_less n1 hgt m2
  have q5 : decide (n < m) = true := decide_eq_true hgt
  generalize plI n = k at *
  generalize plB n = b at *
  generalize plI m = i at *
  generalize plB m = a at *
  have q1 : ((a : Int) != 0) = true := by rw [bne_iff_ne]; omega
  have q2 : decide (i < 0) = false := decide_eq_false (by omega)
  have q3 : decide (15 < i) = false := decide_eq_false (by omega)
  by_cases hik : i = k
  · have q6 : (i == k) = true := beq_iff_eq.2 hik
    have q8 : ((a : Int) == (b : Int)) = false := beq_eq_false_iff_ne.2 (by omega)
    have qb : (a == b) = false := beq_eq_false_iff_ne.2 (by omega)
    clear hl hmn hik
    have HB := Lib.hid (Below.refl W.heap.size W)
    go_enter Try.func7, Try.ntmps7
    go_wp2_with fail
    refine (shown6_any _).mono ?_
    rintro e w1 ⟨rfl, hb⟩
    have nHB := Lib.hid (belG HB.out hb HB.out.size)
    clear hb
    clear HB 
    have HB := nHB
    clear nHB 
    go_wp2_with fail
    refine (C1.out _).mono ?_
    rintro e w2 ⟨rfl, hb⟩
    have nHB := Lib.hid (belG HB.out hb HB.out.size)
    clear hb
    clear HB 
    have HB := nHB
    clear nHB 
    go_wp2_with fail
    refine (C2.out _).mono ?_
    rintro e w3 ⟨rfl, hb⟩
    have nHB := Lib.hid (belG HB.out hb HB.out.size)
    clear hb
    clear HB 
    have HB := nHB
    clear nHB 
    go_wp2_with fail
    go_ret
    exact ⟨by first | rfl | simp, HB.out⟩
  · have q6 : (i == k) = false := beq_eq_false_iff_ne.2 hik
    clear hl hmn hik
    have HB := Lib.hid (Below.refl W.heap.size W)
    go_enter Try.func7, Try.ntmps7
    go_wp2_with fail
    refine (shown6_any _).mono ?_
    rintro e w1 ⟨rfl, hb⟩
    have nHB := Lib.hid (belG HB.out hb HB.out.size)
    clear hb
    clear HB 
    have HB := nHB
    clear nHB 
    go_wp2_with fail
    refine (C1.out _).mono ?_
    rintro e w2 ⟨rfl, hb⟩
    have nHB := Lib.hid (belG HB.out hb HB.out.size)
    clear hb
    clear HB 
    have HB := nHB
    clear nHB 
    go_wp2_with fail
    refine (C2.out _).mono ?_
    rintro e w3 ⟨rfl, hb⟩
    have nHB := Lib.hid (belG HB.out hb HB.out.size)
    clear hb
    clear HB 
    have HB := nHB
    clear nHB 
    go_wp2_with fail
    go_ret
    exact ⟨by first | rfl | simp, HB.out⟩
end Go.Proofs.Ytgojmhfiikjpnaa
