
/- FieldBack's walk. -/
import Derived.Test.YtecdmdgpmbgaaaaDoorFSigns
namespace Go.Proofs.YtecdmdgpmbgaaaaDoor
open Go.RowKit

set_option maxRecDepth 100000 in
set_option maxHeartbeats 4000000 in
theorem fieldBack_walk (no : Int) (A : Option Addr) (v : List UInt8) (c : Nat) (B : Option Addr) (u : List UInt8) (d : Nat) (t : Int) (W : World) (_ : -9223372036854775808 ≤ no ∧ no ≤ 9223372036854775807) (hc : v.length ≤ c) (hcm : c ≤ 9223372036854775807) (hr : Rd W W.heap.size A v) (hd : u.length ≤ d) (hdm : d ≤ 9223372036854775807) (hs : Rd W W.heap.size B u) (ht : 0 ≤ t ∧ t ≤ 255) (hT : Tb W) :
    Calls Tryd.prog 5 #[.agg #[.int .i64 no, .slice A v.length c, .slice B u.length d, .int .u8 t]] W fun e W' => e = .returned (.bool true) ∧ Below W.heap.size W W' := by
  have HT := Lib.hid hT
  clear hT
  have R0 := Lib.hid hr
  have S0 := Lib.hid hs
  by_cases h500 : 500 < v.length
  · have i0 : (500 : Int) < (v.length : Int) := by omega
    clear hr hs
    generalize v.length = m at *
    generalize u.length = m2 at *
    have HB := Lib.hid (Below.refl W.heap.size W)
    go_enter Tryd.func5, Tryd.ntmps5
    obtain ⟨V0, hV0⟩ : ∃ V, V = W.alloc (.cells #[.int .i64 no, .slice A m c, .slice B m2 d, .int .u8 t] 41) := ⟨_, rfl⟩
    have ha := (Below.refl W.heap.size W).alloc (Nat.le_refl _) (.cells #[.int .i64 no, .slice A m c, .slice B m2 d, .int .u8 t] 41)
    have hg := heap_alloc_new W (.cells #[.int .i64 no, .slice A m c, .slice B m2 d, .int .u8 t] 41)
    have nHB := Lib.hid (HB.out.alloc HB.out.size (.cells #[.int .i64 no, .slice A m c, .slice B m2 d, .int .u8 t] 41))
    rw [← hV0] at ha hg nHB
    have nR0 := Lib.hid ((R0.out.below ha (Nat.le_refl _)).more ha.size)
    have nS0 := Lib.hid ((S0.out.below ha (Nat.le_refl _)).more ha.size)
    obtain ⟨gb, hgb⟩ : ∃ g, g = W.heap.size := ⟨_, rfl⟩
    rw [← hgb] at hg
    have HXGB := Lib.hid hgb
    have GB := Lib.hid hg
    have HV := Lib.hid hV0
    clear ha hg hV0 hgb
    clear HB R0 S0
    have HB := nHB
    have R0 := nR0
    have S0 := nS0
    clear nHB nR0 nS0
    go_wp2_with fail
    rw [← HV.out]
    (try rw [← HXGB.out])
    clear HV HXGB
    clear GB
    refine (shown5_any _ (HT.out.below HB.out)).mono ?_
    rintro e w1 ⟨rfl, hb⟩
    have nHB := Lib.hid (bel5 HB.out hb HB.out.size)
    have nR0 := Lib.hid ((R0.out.below hb (Nat.le_refl _)).more hb.size)
    have nS0 := Lib.hid ((S0.out.below hb (Nat.le_refl _)).more hb.size)
    clear hb
    clear HB R0 S0
    have HB := nHB
    have R0 := nR0
    have S0 := nS0
    clear nHB nR0 nS0
    go_wp2_with fail
    go_ret
    exact ⟨rfl, HB.out⟩
  by_cases h501 : 500 < u.length
  · have i0 : ¬ (500 : Int) < (v.length : Int) := by omega
    have i1 : (500 : Int) < (u.length : Int) := by omega
    clear hr hs
    generalize v.length = m at *
    generalize u.length = m2 at *
    have HB := Lib.hid (Below.refl W.heap.size W)
    go_enter Tryd.func5, Tryd.ntmps5
    obtain ⟨V0, hV0⟩ : ∃ V, V = W.alloc (.cells #[.int .i64 no, .slice A m c, .slice B m2 d, .int .u8 t] 41) := ⟨_, rfl⟩
    have ha := (Below.refl W.heap.size W).alloc (Nat.le_refl _) (.cells #[.int .i64 no, .slice A m c, .slice B m2 d, .int .u8 t] 41)
    have hg := heap_alloc_new W (.cells #[.int .i64 no, .slice A m c, .slice B m2 d, .int .u8 t] 41)
    have nHB := Lib.hid (HB.out.alloc HB.out.size (.cells #[.int .i64 no, .slice A m c, .slice B m2 d, .int .u8 t] 41))
    rw [← hV0] at ha hg nHB
    have nR0 := Lib.hid ((R0.out.below ha (Nat.le_refl _)).more ha.size)
    have nS0 := Lib.hid ((S0.out.below ha (Nat.le_refl _)).more ha.size)
    obtain ⟨gb, hgb⟩ : ∃ g, g = W.heap.size := ⟨_, rfl⟩
    rw [← hgb] at hg
    have HXGB := Lib.hid hgb
    have GB := Lib.hid hg
    have HV := Lib.hid hV0
    clear ha hg hV0 hgb
    clear HB R0 S0
    have HB := nHB
    have R0 := nR0
    have S0 := nS0
    clear nHB nR0 nS0
    go_wp2_with fail
    rw [← HV.out]
    (try rw [← HXGB.out])
    clear HV HXGB
    clear GB
    refine (shown5_any _ (HT.out.below HB.out)).mono ?_
    rintro e w1 ⟨rfl, hb⟩
    have nHB := Lib.hid (bel5 HB.out hb HB.out.size)
    have nR0 := Lib.hid ((R0.out.below hb (Nat.le_refl _)).more hb.size)
    have nS0 := Lib.hid ((S0.out.below hb (Nat.le_refl _)).more hb.size)
    clear hb
    clear HB R0 S0
    have HB := nHB
    have R0 := nR0
    have S0 := nS0
    clear nHB nR0 nS0
    go_wp2_with fail
    go_ret
    exact ⟨rfl, HB.out⟩
  have i0 : ¬ (500 : Int) < (v.length : Int) := by omega
  have i1 : ¬ (500 : Int) < (u.length : Int) := by omega
  have CW1 := Lib.hid (fun w (h : Rd w w.heap.size A v) (ht : Tb w) => fWrite_any no A v c w (by omega) hc hcm h ht)
  have CF1 := Lib.hid (fun w (h : Rd w w.heap.size A v) (ht : Tb w) => fFits_any no A v c w (by omega) h ht)
  have hw1 : (writeL no v).length ≤ 1002 := write_le (by omega)
  obtain ⟨tn, rfl⟩ := Int.eq_ofNat_of_zero_le ht.1
  obtain ⟨j, hj⟩ : ∃ j, j = tn % (u.length + 1) := ⟨_, rfl⟩
  have hjm : j ≤ u.length := by have := Nat.mod_lt tn (show 0 < u.length + 1 by omega); omega
  have i4 : (tn : Int).tmod ((u.length : Int) + 1) = (j : Int) := by rw [Int.tmod_eq_emod_of_nonneg (by omega), hj]; push_cast; rfl
  have i5 : (tn : Int) % ((u.length : Int) + 1) = (j : Int) := by rw [hj]; push_cast; rfl
  have CR2 := Lib.hid (fun w (h : Rd w w.heap.size B u) (ht : Tb w) => fRead_any no B u d (j : Int) w (by omega) hd hdm h ht)
  have hok := read_ok no u j
  have hbad := read_bad no u (j : Int)
  obtain ⟨X, hX⟩ : ∃ X, X = readF no u (j : Int) := ⟨_, rfl⟩
  rw [← hX] at CR2 hok hbad
  have ht2 := ht.2
  have HUD := Lib.hid hd
  have HVC := Lib.hid hc
  have HU5 := Lib.hid (show u.length ≤ 500 by omega)
  have HV5 := Lib.hid (show v.length ≤ 500 by omega)
  have HCM := Lib.hid hcm
  clear hj hX ht hr hs hc hcm
  have SVV := Lib.hid (fun (A1 : Option Addr) (c1 : Nat) (w : World) (h1 : Rd w w.heap.size A1 v) (h2 : Rd w w.heap.size A v) => same_any A1 A v v c1 c _ _ w h1 h2)
  simp only [decide_true] at SVV
  cases hfit : fitsF no v with
  | false =>
    obtain ⟨e1, e2⟩ := writeE_no hfit
    rw [hfit] at CF1
    clear h500 h501 hd hdm hfit SVV HCM HVC HU5 HV5
    generalize writeE no v = E1 at *
    generalize hL1 : writeL no v = L1 at *
    clear hL1
    generalize hN1 : L1.length = N1 at *
    clear hN1
    by_cases hx : X.2.2 = 0
    · obtain ⟨f1, en, f2, f3, f4, f5⟩ := hok hx
      obtain ⟨z1, z2, z3, z4, z5⟩ := fits_some f1
      have g1 := writeE_yes f1
      have hlen := write_len f1
      have hjen : j < en := by
        have h9 := congrArg List.length f5
        rw [List.length_take, List.length_drop, hlen] at h9
        have : 0 < sizeF (fk no) X.1.length := by unfold sizeF; split <;> omega
        omega
      have CW3 := Lib.hid (fun (A3 : Option Addr) (c3 : Nat) (w : World) (h1 : X.1.length ≤ c3) (h2 : c3 ≤ 9223372036854775807) (h : Rd w w.heap.size A3 X.1) (ht : Tb w) => fWrite_any no A3 X.1 c3 w (by omega) h1 h2 h ht)
      have CF3 := Lib.hid (fun (A3 : Option Addr) (c3 : Nat) (w : World) (h : Rd w w.heap.size A3 X.1) (ht : Tb w) => fFits_any no A3 X.1 c3 w (by omega) h ht)
      rw [f1] at CF3
      rw [g1] at CW3
      have hcut : ∀ w, Rd w w.heap.size B u → Rd w w.heap.size (B.map (fun x => x.add j)) (writeL no X.1) := by
        intro w h
        have h9 := h.cut j (en - j) d (by omega) HUD.out
        rw [if_neg (by have := HUD.out; omega), Nat.mul_one, ← f5] at h9
        exact h9
      have hl3 : (writeL no X.1).length = en - j := by rw [f5, List.length_take, List.length_drop]; omega
      have HCUT := Lib.hid hcut
      have SM3 := Lib.hid (fun (A4 : Option Addr) (c4 : Nat) (w : World) (h1 : Rd w w.heap.size A4 (writeL no X.1)) (h2 : Rd w w.heap.size (B.map (fun x => x.add j)) (writeL no X.1)) => same_any A4 (B.map (fun x => x.add j)) (writeL no X.1) (writeL no X.1) c4 (d - j) _ _ w h1 h2)
      simp only [decide_true] at SM3
      rw [hl3] at SM3 CW3
      rw [f2, hx] at CR2
      have k1 : (j : Int) ≤ (en : Int) := by omega
      have k2 : (en : Int) ≤ (u.length : Int) := by omega
      have k3 : (en : Int) ≤ (d : Int) := by have := HUD.out; omega
      have k4 : (en : Int).toNat - j = en - j := by omega
      have k5 : ¬ d = j := by have := HUD.out; omega
      have k6 : (0 : Int) ≤ (j : Int) := Int.natCast_nonneg _
      clear hok hbad f1 f2 f3 f4 f5 z1 z2 z3 z4 z5 g1 hlen hjen hcut hl3 hx HUD
      generalize writeL no X.1 = L3 at *
      generalize X.1 = Y at *
      generalize Y.length = N3 at *
      generalize v.length = m at *
      generalize u.length = m2 at *
      have HB := Lib.hid (Below.refl W.heap.size W)
      go_enter Tryd.func5, Tryd.ntmps5
      obtain ⟨V0, hV0⟩ : ∃ V, V = W.alloc (.cells #[.int .i64 no, .slice A m c, .slice B m2 d, .int .u8 (tn : Int)] 41) := ⟨_, rfl⟩
      have ha := (Below.refl W.heap.size W).alloc (Nat.le_refl _) (.cells #[.int .i64 no, .slice A m c, .slice B m2 d, .int .u8 (tn : Int)] 41)
      have hg := heap_alloc_new W (.cells #[.int .i64 no, .slice A m c, .slice B m2 d, .int .u8 (tn : Int)] 41)
      have nHB := Lib.hid (HB.out.alloc HB.out.size (.cells #[.int .i64 no, .slice A m c, .slice B m2 d, .int .u8 (tn : Int)] 41))
      rw [← hV0] at ha hg nHB
      have nR0 := Lib.hid ((R0.out.below ha (Nat.le_refl _)).more ha.size)
      have nS0 := Lib.hid ((S0.out.below ha (Nat.le_refl _)).more ha.size)
      obtain ⟨gb, hgb⟩ : ∃ g, g = W.heap.size := ⟨_, rfl⟩
      rw [← hgb] at hg
      have HXGB := Lib.hid hgb
      have GB := Lib.hid hg
      have HV := Lib.hid hV0
      clear ha hg hV0 hgb
      clear HB R0 S0
      have HB := nHB
      have R0 := nR0
      have S0 := nS0
      clear nHB nR0 nS0
      go_wp2_with fail
      rw [← HV.out]
      (try rw [← HXGB.out])
      clear HV HXGB
      clear GB
      refine (shown5_any _ (HT.out.below HB.out)).mono ?_
      rintro e w1 ⟨rfl, hb⟩
      have nHB := Lib.hid (bel5 HB.out hb HB.out.size)
      have nR0 := Lib.hid ((R0.out.below hb (Nat.le_refl _)).more hb.size)
      have nS0 := Lib.hid ((S0.out.below hb (Nat.le_refl _)).more hb.size)
      clear hb
      clear HB R0 S0
      have HB := nHB
      have R0 := nR0
      have S0 := nS0
      clear nHB nR0 nS0
      go_wp2_with fail
      refine (CW1.out _ R0.out (HT.out.below HB.out)).mono ?_
      rintro e w2 ⟨⟨A1, c1, rfl, -, -, -⟩, hb⟩
      have nHB := Lib.hid (bel5 HB.out hb HB.out.size)
      have nR0 := Lib.hid ((R0.out.below hb (Nat.le_refl _)).more hb.size)
      have nS0 := Lib.hid ((S0.out.below hb (Nat.le_refl _)).more hb.size)
      clear hb
      clear HB R0 S0
      have HB := nHB
      have R0 := nR0
      have S0 := nS0
      clear nHB nR0 nS0
      go_wp2_with fail
      refine (CF1.out _ R0.out (HT.out.below HB.out)).mono ?_
      rintro e w3 ⟨rfl, hb⟩
      have nHB := Lib.hid (bel5 HB.out hb HB.out.size)
      have nR0 := Lib.hid ((R0.out.below hb (Nat.le_refl _)).more hb.size)
      have nS0 := Lib.hid ((S0.out.below hb (Nat.le_refl _)).more hb.size)
      clear hb
      clear HB R0 S0
      have HB := nHB
      have R0 := nR0
      have S0 := nS0
      clear nHB nR0 nS0
      go_wp2_with fail
      refine (CR2.out _ S0.out (HT.out.below HB.out)).mono ?_
      rintro e w4 ⟨⟨A8, c8, rfl, h8a, h8b, h8⟩, hb⟩
      have nHB := Lib.hid (bel5 HB.out hb HB.out.size)
      have nR0 := Lib.hid ((R0.out.below hb (Nat.le_refl _)).more hb.size)
      have nS0 := Lib.hid ((S0.out.below hb (Nat.le_refl _)).more hb.size)
      clear hb
      clear HB R0 S0
      have HB := nHB
      have R0 := nR0
      have S0 := nS0
      clear nHB nR0 nS0
      have R8 := Lib.hid h8
      clear h8
      go_wp2_with fail
      refine (CW3.out A8 c8 _ h8a h8b R8.out (HT.out.below HB.out)).mono ?_
      rintro e w5 ⟨⟨A9, c9, rfl, -, -, h9⟩, hb⟩
      have nHB := Lib.hid (bel5 HB.out hb HB.out.size)
      have nR0 := Lib.hid ((R0.out.below hb (Nat.le_refl _)).more hb.size)
      have nS0 := Lib.hid ((S0.out.below hb (Nat.le_refl _)).more hb.size)
      have nR8 := Lib.hid ((R8.out.below hb (Nat.le_refl _)).more hb.size)
      clear hb
      clear HB R0 S0 R8
      have HB := nHB
      have R0 := nR0
      have S0 := nS0
      have R8 := nR8
      clear nHB nR0 nS0 nR8
      have R9 := Lib.hid h9
      clear h9
      go_wp2_with fail
      refine (CF3.out A8 c8 _ R8.out (HT.out.below HB.out)).mono ?_
      rintro e w6 ⟨rfl, hb⟩
      have nHB := Lib.hid (bel5 HB.out hb HB.out.size)
      have nR0 := Lib.hid ((R0.out.below hb (Nat.le_refl _)).more hb.size)
      have nS0 := Lib.hid ((S0.out.below hb (Nat.le_refl _)).more hb.size)
      have nR8 := Lib.hid ((R8.out.below hb (Nat.le_refl _)).more hb.size)
      have nR9 := Lib.hid ((R9.out.below hb (Nat.le_refl _)).more hb.size)
      clear hb
      clear HB R0 S0 R8 R9
      have HB := nHB
      have R0 := nR0
      have S0 := nS0
      have R8 := nR8
      have R9 := nR9
      clear nHB nR0 nS0 nR8 nR9
      go_wp2_with fail
      refine (SM3.out A9 c9 _ R9.out (HCUT.out _ S0.out)).mono ?_
      rintro e w7 ⟨rfl, rfl⟩
      go_wp2_with fail
      go_ret
      exact ⟨by first | rfl | simp, HB.out⟩
    · obtain ⟨b1, b2⟩ := hbad hx
      have hxb : (X.2.2 != 0) = true := by simpa using hx
      rw [b1, b2] at CR2
      clear hok hbad b1 b2 hx HUD
      generalize X.2.2 = X3 at *
      generalize v.length = m at *
      generalize u.length = m2 at *
      have HB := Lib.hid (Below.refl W.heap.size W)
      go_enter Tryd.func5, Tryd.ntmps5
      obtain ⟨V0, hV0⟩ : ∃ V, V = W.alloc (.cells #[.int .i64 no, .slice A m c, .slice B m2 d, .int .u8 (tn : Int)] 41) := ⟨_, rfl⟩
      have ha := (Below.refl W.heap.size W).alloc (Nat.le_refl _) (.cells #[.int .i64 no, .slice A m c, .slice B m2 d, .int .u8 (tn : Int)] 41)
      have hg := heap_alloc_new W (.cells #[.int .i64 no, .slice A m c, .slice B m2 d, .int .u8 (tn : Int)] 41)
      have nHB := Lib.hid (HB.out.alloc HB.out.size (.cells #[.int .i64 no, .slice A m c, .slice B m2 d, .int .u8 (tn : Int)] 41))
      rw [← hV0] at ha hg nHB
      have nR0 := Lib.hid ((R0.out.below ha (Nat.le_refl _)).more ha.size)
      have nS0 := Lib.hid ((S0.out.below ha (Nat.le_refl _)).more ha.size)
      obtain ⟨gb, hgb⟩ : ∃ g, g = W.heap.size := ⟨_, rfl⟩
      rw [← hgb] at hg
      have HXGB := Lib.hid hgb
      have GB := Lib.hid hg
      have HV := Lib.hid hV0
      clear ha hg hV0 hgb
      clear HB R0 S0
      have HB := nHB
      have R0 := nR0
      have S0 := nS0
      clear nHB nR0 nS0
      go_wp2_with fail
      rw [← HV.out]
      (try rw [← HXGB.out])
      clear HV HXGB
      clear GB
      refine (shown5_any _ (HT.out.below HB.out)).mono ?_
      rintro e w1 ⟨rfl, hb⟩
      have nHB := Lib.hid (bel5 HB.out hb HB.out.size)
      have nR0 := Lib.hid ((R0.out.below hb (Nat.le_refl _)).more hb.size)
      have nS0 := Lib.hid ((S0.out.below hb (Nat.le_refl _)).more hb.size)
      clear hb
      clear HB R0 S0
      have HB := nHB
      have R0 := nR0
      have S0 := nS0
      clear nHB nR0 nS0
      go_wp2_with fail
      refine (CW1.out _ R0.out (HT.out.below HB.out)).mono ?_
      rintro e w2 ⟨⟨A1, c1, rfl, -, -, -⟩, hb⟩
      have nHB := Lib.hid (bel5 HB.out hb HB.out.size)
      have nR0 := Lib.hid ((R0.out.below hb (Nat.le_refl _)).more hb.size)
      have nS0 := Lib.hid ((S0.out.below hb (Nat.le_refl _)).more hb.size)
      clear hb
      clear HB R0 S0
      have HB := nHB
      have R0 := nR0
      have S0 := nS0
      clear nHB nR0 nS0
      go_wp2_with fail
      refine (CF1.out _ R0.out (HT.out.below HB.out)).mono ?_
      rintro e w3 ⟨rfl, hb⟩
      have nHB := Lib.hid (bel5 HB.out hb HB.out.size)
      have nR0 := Lib.hid ((R0.out.below hb (Nat.le_refl _)).more hb.size)
      have nS0 := Lib.hid ((S0.out.below hb (Nat.le_refl _)).more hb.size)
      clear hb
      clear HB R0 S0
      have HB := nHB
      have R0 := nR0
      have S0 := nS0
      clear nHB nR0 nS0
      go_wp2_with fail
      refine (CR2.out _ S0.out (HT.out.below HB.out)).mono ?_
      rintro e w4 ⟨⟨A8, c8, rfl, -, -, -⟩, hb⟩
      have nHB := Lib.hid (bel5 HB.out hb HB.out.size)
      have nR0 := Lib.hid ((R0.out.below hb (Nat.le_refl _)).more hb.size)
      have nS0 := Lib.hid ((S0.out.below hb (Nat.le_refl _)).more hb.size)
      clear hb
      clear HB R0 S0
      have HB := nHB
      have R0 := nR0
      have S0 := nS0
      clear nHB nR0 nS0
      go_wp2_with fail
      go_ret
      exact ⟨by first | rfl | simp, HB.out⟩
  | true =>
    have e1 := writeE_yes hfit
    have hrb := read_back u hfit
    rw [hfit] at CF1
    rw [e1] at CW1
    obtain ⟨L12, hL12⟩ : ∃ L, L = writeL no v ++ u := ⟨_, rfl⟩
    rw [← hL12] at hrb
    have hl12 : L12.length ≤ 1600 := by rw [hL12, List.length_append]; omega
    have CR1 := Lib.hid (fun (A6 : Option Addr) (c6 : Nat) (w : World) (h1 : L12.length ≤ c6) (h2 : c6 ≤ 9223372036854775807) (h : Rd w w.heap.size A6 L12) (ht : Tb w) => fRead_any no A6 L12 c6 0 w (by omega) h1 h2 h ht)
    rw [hrb] at CR1
    have HL12 := Lib.hid hL12
    clear h500 h501 hd hdm hfit e1 hrb hL12 hl12
    generalize writeL no v = L1 at *
    obtain ⟨N1, hN1⟩ : ∃ N, N = L1.length := ⟨_, rfl⟩
    have HN1 := Lib.hid hN1
    rw [← hN1] at CW1 CR1 hw1
    have HW1 := Lib.hid hw1
    have HM2 := Lib.hid (show u.length = u.length from rfl)
    clear hN1
    by_cases hx : X.2.2 = 0
    · obtain ⟨f1, en, f2, f3, f4, f5⟩ := hok hx
      obtain ⟨z1, z2, z3, z4, z5⟩ := fits_some f1
      have g1 := writeE_yes f1
      have hlen := write_len f1
      have hjen : j < en := by
        have h9 := congrArg List.length f5
        rw [List.length_take, List.length_drop, hlen] at h9
        have : 0 < sizeF (fk no) X.1.length := by unfold sizeF; split <;> omega
        omega
      have CW3 := Lib.hid (fun (A3 : Option Addr) (c3 : Nat) (w : World) (h1 : X.1.length ≤ c3) (h2 : c3 ≤ 9223372036854775807) (h : Rd w w.heap.size A3 X.1) (ht : Tb w) => fWrite_any no A3 X.1 c3 w (by omega) h1 h2 h ht)
      have CF3 := Lib.hid (fun (A3 : Option Addr) (c3 : Nat) (w : World) (h : Rd w w.heap.size A3 X.1) (ht : Tb w) => fFits_any no A3 X.1 c3 w (by omega) h ht)
      rw [f1] at CF3
      rw [g1] at CW3
      have hcut : ∀ w, Rd w w.heap.size B u → Rd w w.heap.size (B.map (fun x => x.add j)) (writeL no X.1) := by
        intro w h
        have h9 := h.cut j (en - j) d (by omega) HUD.out
        rw [if_neg (by have := HUD.out; omega), Nat.mul_one, ← f5] at h9
        exact h9
      have hl3 : (writeL no X.1).length = en - j := by rw [f5, List.length_take, List.length_drop]; omega
      have HCUT := Lib.hid hcut
      have SM3 := Lib.hid (fun (A4 : Option Addr) (c4 : Nat) (w : World) (h1 : Rd w w.heap.size A4 (writeL no X.1)) (h2 : Rd w w.heap.size (B.map (fun x => x.add j)) (writeL no X.1)) => same_any A4 (B.map (fun x => x.add j)) (writeL no X.1) (writeL no X.1) c4 (d - j) _ _ w h1 h2)
      simp only [decide_true] at SM3
      rw [hl3] at SM3 CW3
      rw [f2, hx] at CR2
      have k1 : (j : Int) ≤ (en : Int) := by omega
      have k2 : (en : Int) ≤ (u.length : Int) := by omega
      have k3 : (en : Int) ≤ (d : Int) := by have := HUD.out; omega
      have k4 : (en : Int).toNat - j = en - j := by omega
      have k5 : ¬ d = j := by have := HUD.out; omega
      have k6 : (0 : Int) ≤ (j : Int) := Int.natCast_nonneg _
      clear hok hbad f1 f2 f3 f4 f5 z1 z2 z3 z4 z5 g1 hlen hjen hcut hl3 hx HUD
      generalize writeL no X.1 = L3 at *
      generalize X.1 = Y at *
      generalize Y.length = N3 at *
      obtain ⟨m2, hm2⟩ : ∃ x, x = u.length := ⟨_, rfl⟩
      have HMU := Lib.hid hm2
      rw [← hm2] at i1 i4 i5 hjm CR2 HU5 ⊢
      rw [← hm2] at k2
      clear hm2 HM2
      generalize v.length = m at *
      have HB := Lib.hid (Below.refl W.heap.size W)
      go_enter Tryd.func5, Tryd.ntmps5
      obtain ⟨V0, hV0⟩ : ∃ V, V = W.alloc (.cells #[.int .i64 no, .slice A m c, .slice B m2 d, .int .u8 (tn : Int)] 41) := ⟨_, rfl⟩
      have ha := (Below.refl W.heap.size W).alloc (Nat.le_refl _) (.cells #[.int .i64 no, .slice A m c, .slice B m2 d, .int .u8 (tn : Int)] 41)
      have hg := heap_alloc_new W (.cells #[.int .i64 no, .slice A m c, .slice B m2 d, .int .u8 (tn : Int)] 41)
      have nHB := Lib.hid (HB.out.alloc HB.out.size (.cells #[.int .i64 no, .slice A m c, .slice B m2 d, .int .u8 (tn : Int)] 41))
      rw [← hV0] at ha hg nHB
      have nR0 := Lib.hid ((R0.out.below ha (Nat.le_refl _)).more ha.size)
      have nS0 := Lib.hid ((S0.out.below ha (Nat.le_refl _)).more ha.size)
      obtain ⟨gb, hgb⟩ : ∃ g, g = W.heap.size := ⟨_, rfl⟩
      rw [← hgb] at hg
      have HXGB := Lib.hid hgb
      have GB := Lib.hid hg
      have HV := Lib.hid hV0
      clear ha hg hV0 hgb
      clear HB R0 S0
      have HB := nHB
      have R0 := nR0
      have S0 := nS0
      clear nHB nR0 nS0
      go_wp2_with fail
      rw [← HV.out]
      (try rw [← HXGB.out])
      clear HV HXGB
      clear GB
      refine (shown5_any _ (HT.out.below HB.out)).mono ?_
      rintro e w1 ⟨rfl, hb⟩
      have nHB := Lib.hid (bel5 HB.out hb HB.out.size)
      have nR0 := Lib.hid ((R0.out.below hb (Nat.le_refl _)).more hb.size)
      have nS0 := Lib.hid ((S0.out.below hb (Nat.le_refl _)).more hb.size)
      clear hb
      clear HB R0 S0
      have HB := nHB
      have R0 := nR0
      have S0 := nS0
      clear nHB nR0 nS0
      go_wp2_with fail
      refine (CW1.out _ R0.out (HT.out.below HB.out)).mono ?_
      rintro e w2 ⟨⟨A1, c1, rfl, -, -, h1⟩, hb⟩
      have nHB := Lib.hid (bel5 HB.out hb HB.out.size)
      have nR0 := Lib.hid ((R0.out.below hb (Nat.le_refl _)).more hb.size)
      have nS0 := Lib.hid ((S0.out.below hb (Nat.le_refl _)).more hb.size)
      clear hb
      clear HB R0 S0
      have HB := nHB
      have R0 := nR0
      have S0 := nS0
      clear nHB nR0 nS0
      have R1 := Lib.hid h1
      clear h1
      go_wp2_with fail
      refine (CF1.out _ R0.out (HT.out.below HB.out)).mono ?_
      rintro e w3 ⟨rfl, hb⟩
      have nHB := Lib.hid (bel5 HB.out hb HB.out.size)
      have nR0 := Lib.hid ((R0.out.below hb (Nat.le_refl _)).more hb.size)
      have nS0 := Lib.hid ((S0.out.below hb (Nat.le_refl _)).more hb.size)
      have nR1 := Lib.hid ((R1.out.below hb (Nat.le_refl _)).more hb.size)
      clear hb
      clear HB R0 S0 R1
      have HB := nHB
      have R0 := nR0
      have S0 := nS0
      have R1 := nR1
      clear nHB nR0 nS0 nR1
      go_wp2_with (first
        | (at_builtin; refine wpList_appS _ rfl (.tmp 53) (.tmp 54) rfl w3.heap.size _ [] L1 rfl (by exact Ow.made0 w3 (Nat.le_refl _)) _ _ _ _ rfl HN1.out (by exact R1.out.below ((Below.refl w3.heap.size w3).alloc (Nat.le_refl _) _) (Nat.le_refl _)) (by have := HW1.out; have := HN1.out; show 0 + List.length L1 ≤ 100000000; omega) (by exact le_alloc (Nat.le_refl _) _) ?_; intro v5 w5 hown5 hgrow5; have hb5 := Ow.below (w0 := w3) (by exact Ow.made0 w3 (Nat.le_refl _)) (by exact (Below.refl w3.heap.size w3).alloc (Nat.le_refl _) _) hgrow5 (by exact le_alloc (Nat.le_refl _) _); have HB5 := Lib.hid hb5; rw [List.nil_append] at hown5; have HO5 := Lib.hid hown5; clear hown5 hgrow5 hb5)
        | (at_builtin; refine wpList_appS _ rfl (.tmp 55) (.tmp 56) rfl w3.heap.size _ L1 u rfl HO5.out _ _ _ _ rfl HMU.out (by exact S0.out.below HB5.out (Nat.le_refl _)) (by have := HW1.out; have := HN1.out; have := HU5.out; have := HMU.out; omega) (by exact HB5.out.size) ?_; intro v6 w6' hown6 hgrow6; have hb6 := Ow.below HO5.out HB5.out hgrow6 HB5.out.size; have HB6 := Lib.hid hb6; rw [← HL12.out] at hown6; obtain ⟨A6, c6, e6, q1, q2, q3⟩ := hown6.form; subst e6; have Q1 := Lib.hid q1; have Q2 := Lib.hid q2; have Q3 := Lib.hid q3; clear hown6 hgrow6 hb6 q1 q2 q3))
      have hb6 := HB6.out
      have nHB := Lib.hid (bel5 HB.out hb6 HB.out.size)
      have nR0 := Lib.hid ((R0.out.below hb6 (Nat.le_refl _)).more hb6.size)
      have nS0 := Lib.hid ((S0.out.below hb6 (Nat.le_refl _)).more hb6.size)
      have nR1 := Lib.hid ((R1.out.below hb6 (Nat.le_refl _)).more hb6.size)
      clear hb6 HB5 HO5 HB6
      clear HB R0 S0 R1
      have HB := nHB
      have R0 := nR0
      have S0 := nS0
      have R1 := nR1
      clear nHB nR0 nS0 nR1
      refine (CR1.out A6 c6 _ Q1.out Q2.out Q3.out (HT.out.below HB.out)).mono ?_
      rintro e w4 ⟨⟨A7, c7, rfl, -, -, h7⟩, hb⟩
      have nHB := Lib.hid (bel5 HB.out hb HB.out.size)
      have nR0 := Lib.hid ((R0.out.below hb (Nat.le_refl _)).more hb.size)
      have nS0 := Lib.hid ((S0.out.below hb (Nat.le_refl _)).more hb.size)
      have nR1 := Lib.hid ((R1.out.below hb (Nat.le_refl _)).more hb.size)
      clear hb
      clear HB R0 S0 R1
      have HB := nHB
      have R0 := nR0
      have S0 := nS0
      have R1 := nR1
      clear nHB nR0 nS0 nR1
      have R7 := Lib.hid h7
      clear h7
      go_wp2_with fail
      refine (SVV.out A7 c7 _ R7.out R0.out).mono ?_
      rintro e w5 ⟨rfl, rfl⟩
      go_wp2_with fail
      refine (CR2.out _ S0.out (HT.out.below HB.out)).mono ?_
      rintro e w6 ⟨⟨A8, c8, rfl, h8a, h8b, h8⟩, hb⟩
      have nHB := Lib.hid (bel5 HB.out hb HB.out.size)
      have nR0 := Lib.hid ((R0.out.below hb (Nat.le_refl _)).more hb.size)
      have nS0 := Lib.hid ((S0.out.below hb (Nat.le_refl _)).more hb.size)
      have nR1 := Lib.hid ((R1.out.below hb (Nat.le_refl _)).more hb.size)
      have nR7 := Lib.hid ((R7.out.below hb (Nat.le_refl _)).more hb.size)
      clear hb
      clear HB R0 S0 R1 R7
      have HB := nHB
      have R0 := nR0
      have S0 := nS0
      have R1 := nR1
      have R7 := nR7
      clear nHB nR0 nS0 nR1 nR7
      have R8 := Lib.hid h8
      clear h8
      go_wp2_with fail
      refine (CW3.out A8 c8 _ h8a h8b R8.out (HT.out.below HB.out)).mono ?_
      rintro e w7 ⟨⟨A9, c9, rfl, -, -, h9⟩, hb⟩
      have nHB := Lib.hid (bel5 HB.out hb HB.out.size)
      have nR0 := Lib.hid ((R0.out.below hb (Nat.le_refl _)).more hb.size)
      have nS0 := Lib.hid ((S0.out.below hb (Nat.le_refl _)).more hb.size)
      have nR1 := Lib.hid ((R1.out.below hb (Nat.le_refl _)).more hb.size)
      have nR7 := Lib.hid ((R7.out.below hb (Nat.le_refl _)).more hb.size)
      have nR8 := Lib.hid ((R8.out.below hb (Nat.le_refl _)).more hb.size)
      clear hb
      clear HB R0 S0 R1 R7 R8
      have HB := nHB
      have R0 := nR0
      have S0 := nS0
      have R1 := nR1
      have R7 := nR7
      have R8 := nR8
      clear nHB nR0 nS0 nR1 nR7 nR8
      have R9 := Lib.hid h9
      clear h9
      go_wp2_with fail
      refine (CF3.out A8 c8 _ R8.out (HT.out.below HB.out)).mono ?_
      rintro e w8 ⟨rfl, hb⟩
      have nHB := Lib.hid (bel5 HB.out hb HB.out.size)
      have nR0 := Lib.hid ((R0.out.below hb (Nat.le_refl _)).more hb.size)
      have nS0 := Lib.hid ((S0.out.below hb (Nat.le_refl _)).more hb.size)
      have nR1 := Lib.hid ((R1.out.below hb (Nat.le_refl _)).more hb.size)
      have nR7 := Lib.hid ((R7.out.below hb (Nat.le_refl _)).more hb.size)
      have nR8 := Lib.hid ((R8.out.below hb (Nat.le_refl _)).more hb.size)
      have nR9 := Lib.hid ((R9.out.below hb (Nat.le_refl _)).more hb.size)
      clear hb
      clear HB R0 S0 R1 R7 R8 R9
      have HB := nHB
      have R0 := nR0
      have S0 := nS0
      have R1 := nR1
      have R7 := nR7
      have R8 := nR8
      have R9 := nR9
      clear nHB nR0 nS0 nR1 nR7 nR8 nR9
      go_wp2_with fail
      refine (SM3.out A9 c9 _ R9.out (HCUT.out _ S0.out)).mono ?_
      rintro e w9 ⟨rfl, rfl⟩
      go_wp2_with fail
      go_ret
      exact ⟨by first | rfl | simp, HB.out⟩
    · obtain ⟨b1, b2⟩ := hbad hx
      have hxb : (X.2.2 != 0) = true := by simpa using hx
      rw [b1, b2] at CR2
      clear hok hbad b1 b2 hx HUD
      generalize X.2.2 = X3 at *
      obtain ⟨m2, hm2⟩ : ∃ x, x = u.length := ⟨_, rfl⟩
      have HMU := Lib.hid hm2
      rw [← hm2] at i1 i4 i5 hjm CR2 HU5 ⊢
      clear hm2 HM2
      generalize v.length = m at *
      have HB := Lib.hid (Below.refl W.heap.size W)
      go_enter Tryd.func5, Tryd.ntmps5
      obtain ⟨V0, hV0⟩ : ∃ V, V = W.alloc (.cells #[.int .i64 no, .slice A m c, .slice B m2 d, .int .u8 (tn : Int)] 41) := ⟨_, rfl⟩
      have ha := (Below.refl W.heap.size W).alloc (Nat.le_refl _) (.cells #[.int .i64 no, .slice A m c, .slice B m2 d, .int .u8 (tn : Int)] 41)
      have hg := heap_alloc_new W (.cells #[.int .i64 no, .slice A m c, .slice B m2 d, .int .u8 (tn : Int)] 41)
      have nHB := Lib.hid (HB.out.alloc HB.out.size (.cells #[.int .i64 no, .slice A m c, .slice B m2 d, .int .u8 (tn : Int)] 41))
      rw [← hV0] at ha hg nHB
      have nR0 := Lib.hid ((R0.out.below ha (Nat.le_refl _)).more ha.size)
      have nS0 := Lib.hid ((S0.out.below ha (Nat.le_refl _)).more ha.size)
      obtain ⟨gb, hgb⟩ : ∃ g, g = W.heap.size := ⟨_, rfl⟩
      rw [← hgb] at hg
      have HXGB := Lib.hid hgb
      have GB := Lib.hid hg
      have HV := Lib.hid hV0
      clear ha hg hV0 hgb
      clear HB R0 S0
      have HB := nHB
      have R0 := nR0
      have S0 := nS0
      clear nHB nR0 nS0
      go_wp2_with fail
      rw [← HV.out]
      (try rw [← HXGB.out])
      clear HV HXGB
      clear GB
      refine (shown5_any _ (HT.out.below HB.out)).mono ?_
      rintro e w1 ⟨rfl, hb⟩
      have nHB := Lib.hid (bel5 HB.out hb HB.out.size)
      have nR0 := Lib.hid ((R0.out.below hb (Nat.le_refl _)).more hb.size)
      have nS0 := Lib.hid ((S0.out.below hb (Nat.le_refl _)).more hb.size)
      clear hb
      clear HB R0 S0
      have HB := nHB
      have R0 := nR0
      have S0 := nS0
      clear nHB nR0 nS0
      go_wp2_with fail
      refine (CW1.out _ R0.out (HT.out.below HB.out)).mono ?_
      rintro e w2 ⟨⟨A1, c1, rfl, -, -, h1⟩, hb⟩
      have nHB := Lib.hid (bel5 HB.out hb HB.out.size)
      have nR0 := Lib.hid ((R0.out.below hb (Nat.le_refl _)).more hb.size)
      have nS0 := Lib.hid ((S0.out.below hb (Nat.le_refl _)).more hb.size)
      clear hb
      clear HB R0 S0
      have HB := nHB
      have R0 := nR0
      have S0 := nS0
      clear nHB nR0 nS0
      have R1 := Lib.hid h1
      clear h1
      go_wp2_with fail
      refine (CF1.out _ R0.out (HT.out.below HB.out)).mono ?_
      rintro e w3 ⟨rfl, hb⟩
      have nHB := Lib.hid (bel5 HB.out hb HB.out.size)
      have nR0 := Lib.hid ((R0.out.below hb (Nat.le_refl _)).more hb.size)
      have nS0 := Lib.hid ((S0.out.below hb (Nat.le_refl _)).more hb.size)
      have nR1 := Lib.hid ((R1.out.below hb (Nat.le_refl _)).more hb.size)
      clear hb
      clear HB R0 S0 R1
      have HB := nHB
      have R0 := nR0
      have S0 := nS0
      have R1 := nR1
      clear nHB nR0 nS0 nR1
      go_wp2_with (first
        | (at_builtin; refine wpList_appS _ rfl (.tmp 53) (.tmp 54) rfl w3.heap.size _ [] L1 rfl (by exact Ow.made0 w3 (Nat.le_refl _)) _ _ _ _ rfl HN1.out (by exact R1.out.below ((Below.refl w3.heap.size w3).alloc (Nat.le_refl _) _) (Nat.le_refl _)) (by have := HW1.out; have := HN1.out; show 0 + List.length L1 ≤ 100000000; omega) (by exact le_alloc (Nat.le_refl _) _) ?_; intro v5 w5 hown5 hgrow5; have hb5 := Ow.below (w0 := w3) (by exact Ow.made0 w3 (Nat.le_refl _)) (by exact (Below.refl w3.heap.size w3).alloc (Nat.le_refl _) _) hgrow5 (by exact le_alloc (Nat.le_refl _) _); have HB5 := Lib.hid hb5; rw [List.nil_append] at hown5; have HO5 := Lib.hid hown5; clear hown5 hgrow5 hb5)
        | (at_builtin; refine wpList_appS _ rfl (.tmp 55) (.tmp 56) rfl w3.heap.size _ L1 u rfl HO5.out _ _ _ _ rfl HMU.out (by exact S0.out.below HB5.out (Nat.le_refl _)) (by have := HW1.out; have := HN1.out; have := HU5.out; have := HMU.out; omega) (by exact HB5.out.size) ?_; intro v6 w6' hown6 hgrow6; have hb6 := Ow.below HO5.out HB5.out hgrow6 HB5.out.size; have HB6 := Lib.hid hb6; rw [← HL12.out] at hown6; obtain ⟨A6, c6, e6, q1, q2, q3⟩ := hown6.form; subst e6; have Q1 := Lib.hid q1; have Q2 := Lib.hid q2; have Q3 := Lib.hid q3; clear hown6 hgrow6 hb6 q1 q2 q3))
      have hb6 := HB6.out
      have nHB := Lib.hid (bel5 HB.out hb6 HB.out.size)
      have nR0 := Lib.hid ((R0.out.below hb6 (Nat.le_refl _)).more hb6.size)
      have nS0 := Lib.hid ((S0.out.below hb6 (Nat.le_refl _)).more hb6.size)
      have nR1 := Lib.hid ((R1.out.below hb6 (Nat.le_refl _)).more hb6.size)
      clear hb6 HB5 HO5 HB6
      clear HB R0 S0 R1
      have HB := nHB
      have R0 := nR0
      have S0 := nS0
      have R1 := nR1
      clear nHB nR0 nS0 nR1
      refine (CR1.out A6 c6 _ Q1.out Q2.out Q3.out (HT.out.below HB.out)).mono ?_
      rintro e w4 ⟨⟨A7, c7, rfl, -, -, h7⟩, hb⟩
      have nHB := Lib.hid (bel5 HB.out hb HB.out.size)
      have nR0 := Lib.hid ((R0.out.below hb (Nat.le_refl _)).more hb.size)
      have nS0 := Lib.hid ((S0.out.below hb (Nat.le_refl _)).more hb.size)
      have nR1 := Lib.hid ((R1.out.below hb (Nat.le_refl _)).more hb.size)
      clear hb
      clear HB R0 S0 R1
      have HB := nHB
      have R0 := nR0
      have S0 := nS0
      have R1 := nR1
      clear nHB nR0 nS0 nR1
      have R7 := Lib.hid h7
      clear h7
      go_wp2_with fail
      refine (SVV.out A7 c7 _ R7.out R0.out).mono ?_
      rintro e w5 ⟨rfl, rfl⟩
      go_wp2_with fail
      refine (CR2.out _ S0.out (HT.out.below HB.out)).mono ?_
      rintro e w6 ⟨⟨A8, c8, rfl, -, -, -⟩, hb⟩
      have nHB := Lib.hid (bel5 HB.out hb HB.out.size)
      have nR0 := Lib.hid ((R0.out.below hb (Nat.le_refl _)).more hb.size)
      have nS0 := Lib.hid ((S0.out.below hb (Nat.le_refl _)).more hb.size)
      have nR1 := Lib.hid ((R1.out.below hb (Nat.le_refl _)).more hb.size)
      have nR7 := Lib.hid ((R7.out.below hb (Nat.le_refl _)).more hb.size)
      clear hb
      clear HB R0 S0 R1 R7
      have HB := nHB
      have R0 := nR0
      have S0 := nS0
      have R1 := nR1
      have R7 := nR7
      clear nHB nR0 nS0 nR1 nR7
      go_wp2_with fail
      go_ret
      exact ⟨by first | rfl | simp, HB.out⟩
end Go.Proofs.YtecdmdgpmbgaaaaDoor
