/- DigBytes' walk -/
import Derived.Test.YtlhiaehgeijohaaRef2
namespace Go.Proofs.Ytlhiaehgeijohaa
open Go.RowKit

set_option maxRecDepth 100000 in
set_option maxHeartbeats 2000000 in
theorem digBytes_walk (n w : Int) (A : Option Addr) (b : List UInt8) (c : Nat) (s : ByteArray) (W : World) (hn : -9223372036854775808 ≤ n ∧ n ≤ 9223372036854775807) (hw : -9223372036854775808 ≤ w ∧ w ≤ 9223372036854775807)
    (hc : b.length ≤ c) (hr : Rd W W.heap.size A b) (hs : s.size ≤ maxLen) :
    Calls Try.prog 5 #[.agg #[.int .i64 n, .int .i64 w, .slice A b.length c, .string s]] W fun e W' => e = .returned (.bool true) ∧ Below W.heap.size W W' := by
  unfold maxLen at hs
  by_cases h200 : 200 < b.length
  · go_enter Try.func5, Try.ntmps5
    go_wp2_with fail
    refine (shown_any _).mono ?_
    rintro e W1 ⟨rfl, hb1⟩
    have HB1 := Lib.hid (((Below.refl W.heap.size W).alloc (Nat.le_refl _) _).trans (hb1.mono (le_alloc (Nat.le_refl _) _)))
    clear hb1
    go_wp2
    go_ret
    exact ⟨rfl, HB1.out⟩
  by_cases h100 : 200 < s.size
  · go_enter Try.func5, Try.ntmps5
    go_wp2_with fail
    refine (shown_any _).mono ?_
    rintro e W1 ⟨rfl, hb1⟩
    have HB1 := Lib.hid (((Below.refl W.heap.size W).alloc (Nat.le_refl _) _).trans (hb1.mono (le_alloc (Nat.le_refl _) _)))
    clear hb1
    go_wp2
    go_ret
    exact ⟨rfl, HB1.out⟩
  have C1 := Lib.hid (fun W => big_all n w W hn.2)
  have C2 := Lib.hid (fun W => refBig_any n w W hn.2)
  have C3 := Lib.hid (fun W => unhex_all s W (by omega))
  have C4 := Lib.hid (fun W => refUnhex_any s W (by omega))
  have C5 := Lib.hid (fun W h => hex_any A b c W (by omega) h)
  have C6 := Lib.hid (fun W h => refHex_any A b c W (by omega) h)
  clear hn hw
  generalize bigL n w = d1 at *
  generalize bigE n w = e1 at *
  generalize unhexL s.data.toList = d2 at *
  generalize unhexE s.data.toList = e2 at *
  generalize hx b = d3 at *
  go_enter Try.func5, Try.ntmps5
  go_wp2_with fail
  refine (shown_any _).mono ?_
  rintro e W1 ⟨rfl, hb1⟩
  have hb1' := (((Below.refl W.heap.size W).alloc (Nat.le_refl _) _).trans (hb1.mono (le_alloc (Nat.le_refl _) _)))
  have HB1 := Lib.hid hb1'
  clear hb1 hb1'
  have HR0 := Lib.hid hr
  clear hr
  go_wp2_with fail
  refine (C1.out _).mono ?_
  rintro e W2 ⟨⟨A1, c1, rfl, hc1, hcc1, hr1⟩, hb2⟩
  have HB2 := Lib.hid (HB1.out.trans (hb2.mono HB1.out.size))
  have HR1 := Lib.hid hr1
  clear hb2 hr1 HB1
  go_wp2_with fail
  refine (C2.out _).mono ?_
  rintro e W3 ⟨⟨A2, c2, rfl, hc2, hcc2, hr2⟩, hb3⟩
  have HB3 := Lib.hid (HB2.out.trans (hb3.mono HB2.out.size))
  have HR13 := Lib.hid ((HR1.out.below hb3 (Nat.le_refl _)).more hb3.size)
  have HR2 := Lib.hid hr2
  clear hb3 hr2 HB2 HR1
  go_wp2_with fail
  refine (C3.out _).mono ?_
  rintro e W4 ⟨⟨A3, c3, rfl, hc3, hcc3, hr3⟩, hb4⟩
  have HB4 := Lib.hid (HB3.out.trans (hb4.mono HB3.out.size))
  have HR14 := Lib.hid ((HR13.out.below hb4 (Nat.le_refl _)).more hb4.size)
  have HR24 := Lib.hid ((HR2.out.below hb4 (Nat.le_refl _)).more hb4.size)
  have HR3 := Lib.hid hr3
  clear hb4 hr3 HB3 HR13 HR2
  go_wp2_with fail
  refine (C4.out _).mono ?_
  rintro e W5 ⟨⟨A4, c4, rfl, hc4, hcc4, hr4⟩, hb5⟩
  have HB5 := Lib.hid (HB4.out.trans (hb5.mono HB4.out.size))
  have HR15 := Lib.hid ((HR14.out.below hb5 (Nat.le_refl _)).more hb5.size)
  have HR25 := Lib.hid ((HR24.out.below hb5 (Nat.le_refl _)).more hb5.size)
  have HR35 := Lib.hid ((HR3.out.below hb5 (Nat.le_refl _)).more hb5.size)
  have HR4 := Lib.hid hr4
  clear hb5 hr4 HB4 HR14 HR24 HR3
  go_wp2_with fail
  refine (same_any A1 A2 d1 d1 c1 c2 _ _ W5 HR15.out HR25.out).mono ?_
  rintro e W6 ⟨rfl, rfl⟩
  rw [show decide (d1 = d1) = true by simp]
  have y1 : (e1 == e1) = true := by simp
  have y2 : (e2 == e2) = true := by simp
  go_wp2_with fail
  refine (C5.out _ ((HR0.out.below HB5.out (Nat.le_refl _)).more HB5.out.size)).mono ?_
  rintro e W7 ⟨rfl, hb7⟩
  have HB7 := Lib.hid (HB5.out.trans (hb7.mono HB5.out.size))
  have HR37 := Lib.hid ((HR35.out.below hb7 (Nat.le_refl _)).more hb7.size)
  have HR47 := Lib.hid ((HR4.out.below hb7 (Nat.le_refl _)).more hb7.size)
  clear hb7 HB5 HR35 HR4
  go_wp2_with fail
  refine (C6.out _ ((HR0.out.below HB7.out (Nat.le_refl _)).more HB7.out.size)).mono ?_
  rintro e W8 ⟨rfl, hb8⟩
  have HB8 := Lib.hid (HB7.out.trans (hb8.mono HB7.out.size))
  have HR38 := Lib.hid ((HR37.out.below hb8 (Nat.le_refl _)).more hb8.size)
  have HR48 := Lib.hid ((HR47.out.below hb8 (Nat.le_refl _)).more hb8.size)
  clear hb8 HB7 HR37 HR47
  have y3 : (d3 == d3) = true := by simp
  go_wp2_with fail
  refine (same_any A3 A4 d2 d2 c3 c4 _ _ W8 HR38.out HR48.out).mono ?_
  rintro e W9 ⟨rfl, rfl⟩
  rw [show decide (d2 = d2) = true by simp]
  go_wp2
  go_ret
  exact ⟨by simp, HB8.out⟩
end Go.Proofs.Ytlhiaehgeijohaa
