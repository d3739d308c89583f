
/- MacDerives' walk. -/
import Derived.Test.YtgabcbifefokkaaDoorMTells
import Derived.Test.YtgabcbifefokkaaDoorDerD
import Derived.Test.YtgabcbifefokkaaDoorLong
namespace Go.Proofs.YtgabcbifefokkaaDoor
open Go.RowKit

theorem nil_sl (W : World) : Sl W (.slice none 0 0) [] := Sl.nil

set_option maxRecDepth 100000 in
set_option maxHeartbeats 4000000 in
theorem macDerives_walk (A : Option Addr) (k : List UInt8) (c : Nat) (s : ByteArray) (P : Option Addr) (ps : List (List UInt8)) (d : Nat) (W : World) (hc : k.length ≤ c) (hr : Rd W W.heap.size A k) (hs : s.size ≤ 9223372036854775807) (hd : ps.length ≤ d) (hd2 : d ≤ 9223372036854775807) (hm : Mat W W.heap.size P ps) (hk : Ks W) :
    Calls Tryd.prog 4 #[.slice A k.length c, .string s, .slice P ps.length d] W fun e W' => e = .returned (.bool true) ∧ Below W.heap.size W W' := by
  have RA := Lib.hid (fun w (h : Below W.heap.size W w) => (hr.below h (Nat.le_refl _)).more h.size)
  have RM := Lib.hid (fun w (h : Below W.heap.size W w) => (hm.below h (Nat.le_refl _)).more h.size)
  have KB := Lib.hid (fun w (h : Below W.heap.size W w) => Ks.call hk h)
  obtain ⟨n, hn⟩ : ∃ n, n = k.length := ⟨_, rfl⟩
  obtain ⟨q, hq⟩ : ∃ q, q = ps.length := ⟨_, rfl⟩
  have hq2 : q ≤ 9223372036854775807 := by omega
  by_cases h1 : 100 < n
  · have i1 : (100 : Int) < (n : Int) := by omega
    rw [← hn, ← hq]
    clear hr hm hk hn hq hc hd
    go_enter Tryd.func4, Tryd.ntmps4
    go_wp2_with fail
    refine (shown3_any _ (KB.out _ (Below.refl _ _))).mono ?_
    rintro e W1 ⟨rfl, hb1⟩
    have HB1 := Lib.hid hb1
    clear hb1
    go_wp2
    go_ret
    exact ⟨rfl, HB1.out⟩
  · have i1 : ¬ (100 : Int) < (n : Int) := by omega
    by_cases h2 : 300 < s.size
    · have i2 : (300 : Int) < (s.size : Int) := by omega
      rw [← hn, ← hq]
      clear hr hm hk hn hq hc hd
      go_enter Tryd.func4, Tryd.ntmps4
      go_wp2_with fail
      refine (shown3_any _ (KB.out _ (Below.refl _ _))).mono ?_
      rintro e W1 ⟨rfl, hb1⟩
      have HB1 := Lib.hid hb1
      clear hb1
      go_wp2
      go_ret
      exact ⟨rfl, HB1.out⟩
    · have i2 : ¬ (300 : Int) < (s.size : Int) := by omega
      by_cases h3 : 20 < q
      · have i3 : (20 : Int) < (q : Int) := by omega
        rw [← hn, ← hq]
        clear hr hm hk hn hq hc hd
        go_enter Tryd.func4, Tryd.ntmps4
        go_wp2_with fail
        refine (shown3_any _ (KB.out _ (Below.refl _ _))).mono ?_
        rintro e W1 ⟨rfl, hb1⟩
        have HB1 := Lib.hid hb1
        clear hb1
        go_wp2
        go_ret
        exact ⟨rfl, HB1.out⟩
      · have i3 : ¬ (20 : Int) < (q : Int) := by omega
        have CL := Lib.hid (fun w h1 => long_at 400 (by omega) P ps d w h1)
        rw [← hq] at CL
        by_cases h4 : 255 < s.size ∨ 16 < q
        · have C1 := Lib.hid (fun w => derive_bad A P n c q d s w hq2 hs h4)
          have C2 := Lib.hid (fun w => refDerive_bad A P n c q d s w hq2 hs h4)
          rw [← hn, ← hq]
          clear hr hm hk hn hq hc hd
          go_enter Tryd.func4, Tryd.ntmps4
          go_wp2_with fail
          refine (shown3_any _ (KB.out _ (Below.refl _ _))).mono ?_
          rintro e W1 ⟨rfl, hb1⟩
          have HB1 := Lib.hid hb1
          clear hb1
          go_wp2_with fail
          refine (CL.out _ (RM.out _ HB1.out)).mono ?_
          rintro e W2 ⟨⟨r, rfl, hr4⟩, rfl⟩
          by_cases h5 : r ≤ 400
          · have i5 : ¬ (400 : Int) < r := by omega
            clear hr4
            go_wp2_with fail
            refine (C1.out _).mono ?_
            rintro e W3 ⟨rfl, rfl⟩
            go_wp2_with fail
            refine (C2.out _).mono ?_
            rintro e W4 ⟨rfl, rfl⟩
            go_wp2_with fail
            refine (same_yes _ _ [] _ (nil_sl _) (nil_sl _)).mono ?_
            rintro e W5 ⟨rfl, rfl⟩
            go_wp2_with fail
            go_ret
            exact ⟨rfl, HB1.out⟩
          · have i5 : (400 : Int) < r := by omega
            clear hr4
            go_wp2
            go_ret
            exact ⟨rfl, HB1.out⟩
        · by_cases htot : ps.length + tot ps ps.length ≤ 400
          · have C1 := Lib.hid (fun w h1 h2 h3 => derive_ok A P k ps c d s w (by omega) hc (by omega) (by omega) (by omega) h1 h2 h3)
            have C2 := Lib.hid (fun w h1 h2 => refDerive_ok A P k ps c d s w (by omega) hc (by omega) (by omega) (by omega) h1 h2)
            have L1 := Lib.hid (tagF_length k (toldF s.data.toList ps))
            generalize tagF k (toldF s.data.toList ps) = T at *
            rw [← hn, ← hq] at C1 C2 ⊢
            clear hr hm hk hn hq hc hd h4 htot
            go_enter Tryd.func4, Tryd.ntmps4
            go_wp2_with fail
            refine (shown3_any _ (KB.out _ (Below.refl _ _))).mono ?_
            rintro e W1 ⟨rfl, hb1⟩
            have HB1 := Lib.hid hb1
            clear hb1
            go_wp2_with fail
            refine (CL.out _ (RM.out _ HB1.out)).mono ?_
            rintro e W2 ⟨⟨r, rfl, hr4⟩, rfl⟩
            by_cases h5 : r ≤ 400
            · have i5 : ¬ (400 : Int) < r := by omega
              clear hr4
              go_wp2_with fail
              refine (C1.out _ (RA.out _ HB1.out) (RM.out _ HB1.out) (KB.out _ HB1.out)).mono ?_
              rintro e W3 ⟨⟨A3, c3, rfl, h31, h32, h33⟩, hb3⟩
              have HB3 := Lib.hid (bel_call HB1.out hb3 HB1.out.size)
              have HR3 := Lib.hid h33
              clear h33 hb3
              go_wp2_with fail
              refine (C2.out _ (RA.out _ HB3.out) (RM.out _ HB3.out)).mono ?_
              rintro e W4 ⟨⟨A4, c4, rfl, h41, h42, h43⟩, hb4⟩
              have HB4 := Lib.hid (bel_call HB3.out hb4 HB3.out.size)
              have HS1 := Lib.hid (slOf L1.out h31 h32 ((HR3.out.below hb4 (Nat.le_refl _)).more hb4.size))
              have HS2 := Lib.hid (slOf L1.out h41 h42 h43)
              clear h43 hb4 HR3 h31 h32 h41 h42
              go_wp2_with fail
              refine (same_yes _ _ T _ HS1.out HS2.out).mono ?_
              rintro e W5 ⟨rfl, rfl⟩
              go_wp2_with fail
              go_ret
              exact ⟨rfl, HB4.out⟩
            · have i5 : (400 : Int) < r := by omega
              clear hr4
              go_wp2
              go_ret
              exact ⟨rfl, HB1.out⟩
          · rw [← hn, ← hq]
            have HT := Lib.hid htot
            clear hr hm hk hn hq hc hd h4 htot
            go_enter Tryd.func4, Tryd.ntmps4
            go_wp2_with fail
            refine (shown3_any _ (KB.out _ (Below.refl _ _))).mono ?_
            rintro e W1 ⟨rfl, hb1⟩
            have HB1 := Lib.hid hb1
            clear hb1
            go_wp2_with fail
            refine (CL.out _ (RM.out _ HB1.out)).mono ?_
            rintro e W2 ⟨⟨r, rfl, hr4⟩, rfl⟩
            have i5 : (400 : Int) < r := by
              by_cases h5 : r ≤ 400
              · exact absurd (hr4 h5) HT.out
              · omega
            clear hr4
            go_wp2
            go_ret
            exact ⟨rfl, HB1.out⟩
end Go.Proofs.YtgabcbifefokkaaDoor
