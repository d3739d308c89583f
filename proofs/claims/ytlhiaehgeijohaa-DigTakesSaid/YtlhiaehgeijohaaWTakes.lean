/- DigTakes' walk -/
import Derived.Test.YtlhiaehgeijohaaRef3
namespace Go.Proofs.Ytlhiaehgeijohaa
open Go.RowKit

set_option maxHeartbeats 2000000 in
theorem digTakes_walk (A : Option Addr) (b : List UInt8) (c : Nat) (i n : Int) (W : World) (hc : b.length ≤ c) (hr : Rd W W.heap.size A b)
    (_hi : -9223372036854775808 ≤ i ∧ i ≤ 9223372036854775807) (_hn : -9223372036854775808 ≤ n ∧ n ≤ 9223372036854775807) :
    Calls Try.prog 4 #[.slice A b.length c, .int .i64 i, .int .i64 n] W fun e W' => e = .returned (.bool true) ∧ Below W.heap.size W W' := by
  by_cases h600 : 600 < b.length
  · go_enter Try.func4, Try.ntmps4
    go_wp2_with fail
    refine (shown_any _).mono ?_
    rintro e W1 ⟨rfl, hb1⟩
    have HB1 := Lib.hid hb1
    clear hb1
    go_wp2
    go_ret
    exact ⟨rfl, HB1.out⟩
  · have C1 := Lib.hid (fun W h => takeBcd_all A b c i n W (by omega) hc h)
    have C2 := Lib.hid (fun W h => refTakeBcd_all A b c i n W (by omega) hc h)
    have C3 := Lib.hid (fun W h => takeBig_all A b c i n W (by omega) hc h)
    have C4 := Lib.hid (fun W h => refTakeBig_all A b c i n W (by omega) hc h)
    generalize tbS b i n = t at *
    generalize tgS b i n = u at *
    obtain ⟨t1, t2, t3⟩ := t
    obtain ⟨u1, u2, u3⟩ := u
    go_enter Try.func4, Try.ntmps4
    go_wp2_with fail
    refine (shown_any _).mono ?_
    rintro e W1 ⟨rfl, hb1⟩
    have HB1 := Lib.hid hb1
    have HR0 := Lib.hid hr
    clear hb1 hr
    go_wp2_with fail
    refine (C1.out _ ((HR0.out.below HB1.out (Nat.le_refl _)).more HB1.out.size)).mono ?_
    rintro e W2 ⟨rfl, hb2⟩
    have HB2 := Lib.hid (HB1.out.trans (hb2.mono HB1.out.size))
    clear hb2 HB1
    go_wp2_with fail
    refine (C2.out _ ((HR0.out.below HB2.out (Nat.le_refl _)).more HB2.out.size)).mono ?_
    rintro e W3 ⟨rfl, hb3⟩
    have HB3 := Lib.hid (HB2.out.trans (hb3.mono HB2.out.size))
    clear hb3 HB2
    go_wp2_with fail
    refine (C3.out _ ((HR0.out.below HB3.out (Nat.le_refl _)).more HB3.out.size)).mono ?_
    rintro e W4 ⟨rfl, rfl⟩
    go_wp2_with fail
    refine (C4.out _ ((HR0.out.below HB3.out (Nat.le_refl _)).more HB3.out.size)).mono ?_
    rintro e W5 ⟨rfl, rfl⟩
    have y1 : (t1 == t1) = true := by simp
    have y2 : (t2 == t2) = true := by simp
    have y3 : (t3 == t3) = true := by simp
    have y4 : (u1 == u1) = true := by simp
    have y5 : (u2 == u2) = true := by simp
    have y6 : (u3 == u3) = true := by simp
    go_wp2
    go_ret
    exact ⟨by simp, HB3.out⟩
end Go.Proofs.Ytlhiaehgeijohaa
