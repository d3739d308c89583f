/- DigCuts' walk -/
import Derived.Test.YtlhiaehgeijohaaAll
namespace Go.Proofs.Ytlhiaehgeijohaa
open Go.RowKit

theorem tgS_out (l : List UInt8) (a n : Int) (h : a < 0 ∨ (l.length : Int) < a) : (tgS l a n).2.2 = 1 := by
  unfold tgS
  rw [if_pos (by omega)]
theorem tgS_short (l : List UInt8) (a n : Int) (h1 : 1 ≤ n) (h2 : n ≤ 8) (h : 0 ≤ a) (h' : a ≤ (l.length : Int)) (hs : (l.length : Int) - a < n) : (tgS l a n).2.2 = 3 := by
  unfold tgS
  rw [if_neg (by omega), if_pos (by omega)]
theorem tgS_in (l : List UInt8) (a n : Int) (h1 : 1 ≤ n) (h2 : n ≤ 8) (h : 0 ≤ a) (h' : a ≤ (l.length : Int)) (hs : ¬ (l.length : Int) - a < n) : ((tgS l a n).2.2 == 1) = false ∧ ((tgS l a n).2.2 == 3) = false := by
  unfold tgS
  rw [if_neg (by omega), if_neg (by omega)]
  split <;> exact ⟨rfl, rfl⟩
theorem tbS_out (l : List UInt8) (a n : Int) (h : a < 0 ∨ (l.length : Int) < a) : (tbS l a n).2.2 = 1 := by
  unfold tbS
  rw [if_pos (by omega)]
theorem tbS_short (l : List UInt8) (a n : Int) (h1 : 1 ≤ n) (h2 : n ≤ 8) (h : 0 ≤ a) (h' : a ≤ (l.length : Int)) (hs : (l.length : Int) - a < (n + 1) / 2) : (tbS l a n).2.2 = 3 := by
  unfold tbS
  rw [if_neg (by omega), if_pos (by omega)]
theorem tbS_in (l : List UInt8) (a n : Int) (h1 : 1 ≤ n) (h2 : n ≤ 8) (h : 0 ≤ a) (h' : a ≤ (l.length : Int)) (hs : ¬ (l.length : Int) - a < (n + 1) / 2) : ((tbS l a n).2.2 == 1) = false ∧ ((tbS l a n).2.2 == 3) = false := by
  unfold tbS
  rw [if_neg (by omega), if_neg (by omega)]
  split <;> exact ⟨rfl, rfl⟩

set_option maxHeartbeats 1000000 in
theorem digCuts_walk (A : Option Addr) (l : List UInt8) (c : Nat) (a w : Int) (W : World) (hc : l.length ≤ c) (hr : Rd W W.heap.size A l)
    (ha : -9223372036854775808 ≤ a ∧ a ≤ 9223372036854775807) (hw : 0 ≤ w ∧ w ≤ 255) :
    Calls Try.prog 9 #[.slice A l.length c, .int .i64 a, .int .u8 w] W fun e W' => e = .returned (.bool true) ∧ Below W.heap.size W W' := by
  by_cases h200 : 200 < l.length
  · go_enter Try.func9, Try.ntmps9
    go_wp2_with fail
    refine (shown_any _).mono ?_
    rintro e W1 ⟨rfl, hb1⟩
    have HB1 := Lib.hid hb1
    clear hb1
    go_wp2
    go_ret
    exact ⟨rfl, HB1.out⟩
  · obtain ⟨n, hn⟩ : ∃ n : Int, n = 1 + w % 8 := ⟨_, rfl⟩
    have hn1 : 1 ≤ n := by omega
    have hn2 : n ≤ 8 := by omega
    have e1 : 1 + w % 8 = n := hn.symm
    clear hn
    have C1 := Lib.hid (fun W' (h : Rd W' W'.heap.size A l) => takeBig_all A l c a n W' (by omega) hc h)
    have C2 := Lib.hid (fun W' (h : Rd W' W'.heap.size A l) => takeBcd_all A l c a n W' (by omega) hc h)
    have o1 := Lib.hid (tgS_out l a n)
    have o2 := Lib.hid (tbS_out l a n)
    have s1 := Lib.hid (tgS_short l a n hn1 hn2)
    have s2 := Lib.hid (tbS_short l a n hn1 hn2)
    have i1 := Lib.hid (tgS_in l a n hn1 hn2)
    have i2 := Lib.hid (tbS_in l a n hn1 hn2)
    generalize tgS l a n = T at *
    generalize tbS l a n = U at *
    obtain ⟨t1, t2, E⟩ := T
    obtain ⟨u1, u2, F⟩ := U
    go_enter Try.func9, Try.ntmps9
    go_wp2_with fail
    refine (shown_any _).mono ?_
    rintro e W1 ⟨rfl, hb1⟩
    have HB1 := Lib.hid hb1
    have HR := Lib.hid ((hr.below hb1 (Nat.le_refl _)).more hb1.size)
    clear hb1 hr
    go_wp2_with fail
    refine (C1.out _ HR.out).mono ?_
    rintro e W2 ⟨rfl, rfl⟩
    go_wp2_with fail
    refine (C2.out _ HR.out).mono ?_
    rintro e W3 ⟨rfl, hb3⟩
    have HB3 := Lib.hid (HB1.out.trans (hb3.mono HB1.out.size))
    clear hb3 HB1 C1 C2 HR
    by_cases hout : a < 0 ∨ (l.length : Int) < a
    · obtain rfl : E = 1 := o1.out hout
      obtain rfl : F = 1 := o2.out hout
      rcases hout with ho | ho
      · go_wp2
        go_ret
        exact ⟨by simp, HB3.out⟩
      · have hn0 : ¬ a < 0 := by omega
        go_wp2
        go_ret
        exact ⟨by simp, HB3.out⟩
    · have h0 : 0 ≤ a := by omega
      have h1 : a ≤ (l.length : Int) := by omega
      by_cases q1 : (l.length : Int) - a < n
      all_goals by_cases q2 : (l.length : Int) - a < (n + 1) / 2
      · obtain rfl : E = 3 := s1.out h0 h1 q1
        obtain rfl : F = 3 := s2.out h0 h1 q2
        go_wp2
        go_ret
        exact ⟨by simp, HB3.out⟩
      · obtain rfl : E = 3 := s1.out h0 h1 q1
        obtain ⟨x1, x2⟩ := i2.out h0 h1 (by omega)
        go_wp2
        go_ret
        exact ⟨by simp; omega, HB3.out⟩
      · exact absurd q2 (by omega)
      · obtain ⟨x1, x2⟩ := i2.out h0 h1 (by omega)
        obtain ⟨x3, x4⟩ := i1.out h0 h1 (by omega)
        go_wp2
        go_ret
        exact ⟨by simp; omega, HB3.out⟩
end Go.Proofs.Ytlhiaehgeijohaa
