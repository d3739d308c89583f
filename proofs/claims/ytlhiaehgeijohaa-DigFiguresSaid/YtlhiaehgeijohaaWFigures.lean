/- DigFigures' walk -/
import Derived.Test.YtlhiaehgeijohaaRef1
namespace Go.Proofs.Ytlhiaehgeijohaa
open Go.RowKit

set_option maxHeartbeats 2000000 in
theorem digFigures_walk (n w : Int) (s : ByteArray) (W : World) (hn : -9223372036854775808 ≤ n ∧ n ≤ 9223372036854775807) (hw : -9223372036854775808 ≤ w ∧ w ≤ 9223372036854775807) (hs : s.size ≤ maxLen) :
    Calls Try.prog 3 #[.int .i64 n, .int .i64 w, .string s] W fun e W' => e = .returned (.bool true) ∧ Below W.heap.size W W' := by
  unfold maxLen at hs
  by_cases h100 : 100 < s.size
  · go_enter Try.func3, Try.ntmps3
    go_wp2_with fail
    refine (shown_any _).mono ?_
    rintro e W1 ⟨rfl, hb1⟩
    have HB1 := Lib.hid hb1
    clear hb1
    go_wp2
    go_ret
    exact ⟨rfl, HB1.out⟩
  · have C1 := Lib.hid (fun W => digits_all n w W hn.2)
    have C2 := Lib.hid (fun W => refDigits_any n w W hn.2)
    have C3 := Lib.hid (fun W => value_all s W hs)
    have C4 := Lib.hid (fun W => refValue_any s W (by omega))
    have C5 := Lib.hid (fun W => bcd_all s W (by omega))
    have C6 := Lib.hid (fun W => refBcd_any s W (by omega))
    generalize digL n w = d1 at *
    generalize digE n w = e1 at *
    generalize valR s.data.toList = v at *
    obtain ⟨v1, v2⟩ := v
    generalize bcdL s.data.toList = p at *
    generalize bcdE s.data.toList = e3 at *
    go_enter Try.func3, Try.ntmps3
    go_wp2_with fail
    refine (shown_any _).mono ?_
    rintro e W1 ⟨rfl, hb1⟩
    have HB1 := Lib.hid hb1
    clear hb1
    go_wp2_with fail
    refine (C1.out _).mono ?_
    rintro e W2 ⟨rfl, hb2⟩
    have HB2 := Lib.hid (HB1.out.trans (hb2.mono HB1.out.size))
    clear hb2 HB1
    go_wp2_with fail
    refine (C2.out _).mono ?_
    rintro e W3 ⟨rfl, hb3⟩
    have HB3 := Lib.hid (HB2.out.trans (hb3.mono HB2.out.size))
    clear hb3 HB2
    go_wp2_with fail
    refine (C3.out _).mono ?_
    rintro e W4 ⟨rfl, hb4⟩
    have HB4 := Lib.hid (HB3.out.trans (hb4.mono HB3.out.size))
    clear hb4 HB3
    go_wp2_with fail
    refine (C4.out _).mono ?_
    rintro e W5 ⟨rfl, hb5⟩
    have HB5 := Lib.hid (HB4.out.trans (hb5.mono HB4.out.size))
    clear hb5 HB4
    go_wp2_with fail
    refine (C5.out _).mono ?_
    rintro e W6 ⟨⟨A6, c6, rfl, hc6, hcc6, hr6⟩, hb6⟩
    have HB6 := Lib.hid (HB5.out.trans (hb6.mono HB5.out.size))
    have HR6 := Lib.hid hr6
    clear hb6 HB5 hr6
    go_wp2_with fail
    refine (C6.out _).mono ?_
    rintro e W7 ⟨⟨A7, c7, rfl, hc7, hcc7, hr7⟩, hb7⟩
    have HB7 := Lib.hid (HB6.out.trans (hb7.mono HB6.out.size))
    have HR67 := Lib.hid (HR6.out.below hb7 (Nat.le_refl _))
    have HR7 := Lib.hid hr7
    clear hb7 HB6 HR6 hr7
    have y1 : (d1 == d1) = true := by simp
    have y2 : (e1 == e1) = true := by simp
    have y3 : ((v1 : Int) == (v1 : Int)) = true := by simp
    have y4 : ((v2 : Int) == (v2 : Int)) = true := by simp
    go_wp2_with fail
    refine (same_any A6 A7 p p c6 c7 _ _ W7 HR67.out HR7.out).mono ?_
    rintro e W8 ⟨rfl, rfl⟩
    rw [show decide (p = p) = true by simp]
    go_wp2
    go_ret
    exact ⟨by simp, HB7.out⟩
end Go.Proofs.Ytlhiaehgeijohaa
