
/- ProvOnce's walk. -/
import Derived.Test.YtcfncbbdlbdbnaaDoorPrS
import Derived.Test.YtcfncbbdlbdbnaaDoorPrL
import Derived.Test.YtcfncbbdlbdbnaaDoorPrO
namespace Go.Proofs.YtcfncbbdlbdbnaaDoor
open Go.RowKit

theorem tabF_mem (l : List Pr) (k b : List UInt8) : (k, b) ∈ tabF l k b := by
  unfold tabF
  split
  · assumption
  · simp
theorem tabF_again (l : List Pr) (k b : List UInt8) (h : (k, b) ∈ l) : tabF l k b = l := by unfold tabF; rw [if_pos h]

set_option maxRecDepth 100000 in
set_option maxHeartbeats 8000000 in
theorem provOnce_walk (i f : Bool) (A : Option Addr) (l : List Pr) (c : Nat) (K : Option Addr) (k : List UInt8) (kc : Nat) (B : Option Addr) (b : List UInt8) (bc : Nat) (T : Option Addr) (t : List UInt8) (tc : Nat) (W : World)
    (hc : l.length ≤ c) (hcm : c ≤ 9223372036854775807) (hT : Tab W W.heap.size A l) (hkc : k.length ≤ kc) (hkm : kc ≤ 9223372036854775807) (hk : Rd W W.heap.size K k) (hbc : b.length ≤ bc) (hbm : bc ≤ 9223372036854775807) (hb : Rd W W.heap.size B b) (htc : t.length ≤ tc) (htm : tc ≤ 9223372036854775807) (ht : Rd W W.heap.size T t) (hK : Ks W) :
    Calls Tryd.prog 6 #[.agg #[.bool i, .slice A l.length c, .bool f, .slice K k.length kc, .slice B b.length bc, .slice T t.length tc]] W fun e W' => e = .returned (.bool true) ∧ Below W.heap.size W W' := by
  have hf3 := fold3
  have RK := Lib.hid (fun w (h : Below W.heap.size W w) => (hk.below h (Nat.le_refl _)).more h.size)
  have RB := Lib.hid (fun w (h : Below W.heap.size W w) => (hb.below h (Nat.le_refl _)).more h.size)
  have RG := Lib.hid (fun w (h : Below W.heap.size W w) => (ht.below h (Nat.le_refl _)).more h.size)
  have RT := Lib.hid (fun w (h : Below W.heap.size W w) => (hT.below h (Nat.le_refl _)).more h.size)
  have KB := Lib.hid (fun w (h : Below W.heap.size W w) => Ks.call hK h)
  have CF1 := Lib.hid (fun w (h : Below W.heap.size W w) => few_any i f A l c w hc hcm (RT.out w h))
  obtain ⟨n, hn⟩ : ∃ n, n = l.length := ⟨_, rfl⟩
  obtain ⟨kn, hkn⟩ : ∃ n, n = k.length := ⟨_, rfl⟩
  obtain ⟨bn, hbn⟩ : ∃ n, n = b.length := ⟨_, rfl⟩
  obtain ⟨tn, htn⟩ : ∃ n, n = t.length := ⟨_, rfl⟩
  have HN := Lib.hid hn
  have HKN := Lib.hid hkn
  have HBN := Lib.hid hbn
  have HTN := Lib.hid htn
  have HKC := Lib.hid hkc
  have HBC := Lib.hid hbc
  have HTC := Lib.hid htc
  have HCC := Lib.hid hc
  have HKM := Lib.hid hkm
  have HBM := Lib.hid hbm
  have HCM := Lib.hid hcm
  have i63 : kn ≤ 9223372036854775807 ∧ bn ≤ 9223372036854775807 ∧ tn ≤ 9223372036854775807 := by omega
  obtain ⟨i631, i632, i633⟩ := i63
  rw [← hn] at CF1 ⊢
  rw [← hkn, ← hbn, ← htn]
  clear hk hb ht hT hK hn hkn hbn htn hkc hkm hbc hbm htc htm hc hcm
  obtain ⟨-, q2, -, q5⟩ := alloc2 W (.cells #[.bool i, .slice A n c, .bool f, .slice K kn kc, .slice B bn bc, .slice T tn tc] 49) (.cells (pcs i A n c f) 24)
  have Q2 := Lib.hid q2
  have Q5 := Lib.hid q5
  clear q2 q5
  by_cases h1 : 60 < kn
  · have ih1 : (60 : Int) < (kn : Int) := by omega
    go_enter Tryd.func6, Tryd.ntmps6
    go_wp2_with fail
    refine (shown4_any _ (KB.out _ Q5.out)).mono ?_
    rintro e w1 ⟨rfl, hb1⟩
    have BW1 := Lib.hid (bel_call Q5.out hb1 Q5.out.size)
    have P1 := Lib.hid (old_below Q2.out hb1 (Nat.le_refl _))
    obtain ⟨x0, x1, x2⟩ := cells3 P1.out
    clear hb1 Q2 Q5
    go_wp2_with fail
    refine (CF1.out _ BW1.out).mono ?_
    rintro e w3 ⟨⟨r, rfl, hr⟩, hb3⟩
    have BW := Lib.hid (bel_call BW1.out hb3 BW1.out.size)
    have P3 := Lib.hid (old_below P1.out hb3 (Nat.le_refl _))
    have HR := Lib.hid hr
    clear hb3 hr x0 x1 x2 BW1 P1
    cases r
    · go_wp2_with fail
      go_ret
      exact ⟨rfl, BW.out⟩
    go_wp2_with fail
    go_ret
    exact ⟨rfl, BW.out⟩
  have ih1 : ¬ (60 : Int) < (kn : Int) := by omega
  by_cases h2 : 60 < bn
  · have ih2 : (60 : Int) < (bn : Int) := by omega
    go_enter Tryd.func6, Tryd.ntmps6
    go_wp2_with fail
    refine (shown4_any _ (KB.out _ Q5.out)).mono ?_
    rintro e w1 ⟨rfl, hb1⟩
    have BW1 := Lib.hid (bel_call Q5.out hb1 Q5.out.size)
    have P1 := Lib.hid (old_below Q2.out hb1 (Nat.le_refl _))
    obtain ⟨x0, x1, x2⟩ := cells3 P1.out
    clear hb1 Q2 Q5
    go_wp2_with fail
    refine (CF1.out _ BW1.out).mono ?_
    rintro e w3 ⟨⟨r, rfl, hr⟩, hb3⟩
    have BW := Lib.hid (bel_call BW1.out hb3 BW1.out.size)
    have P3 := Lib.hid (old_below P1.out hb3 (Nat.le_refl _))
    have HR := Lib.hid hr
    clear hb3 hr x0 x1 x2 BW1 P1
    cases r
    · go_wp2_with fail
      go_ret
      exact ⟨rfl, BW.out⟩
    go_wp2_with fail
    go_ret
    exact ⟨rfl, BW.out⟩
  have ih2 : ¬ (60 : Int) < (bn : Int) := by omega
  by_cases h3 : 60 < tn
  · have ih3 : (60 : Int) < (tn : Int) := by omega
    go_enter Tryd.func6, Tryd.ntmps6
    go_wp2_with fail
    refine (shown4_any _ (KB.out _ Q5.out)).mono ?_
    rintro e w1 ⟨rfl, hb1⟩
    have BW1 := Lib.hid (bel_call Q5.out hb1 Q5.out.size)
    have P1 := Lib.hid (old_below Q2.out hb1 (Nat.le_refl _))
    obtain ⟨x0, x1, x2⟩ := cells3 P1.out
    clear hb1 Q2 Q5
    go_wp2_with fail
    refine (CF1.out _ BW1.out).mono ?_
    rintro e w3 ⟨⟨r, rfl, hr⟩, hb3⟩
    have BW := Lib.hid (bel_call BW1.out hb3 BW1.out.size)
    have P3 := Lib.hid (old_below P1.out hb3 (Nat.le_refl _))
    have HR := Lib.hid hr
    clear hb3 hr x0 x1 x2 BW1 P1
    cases r
    · go_wp2_with fail
      go_ret
      exact ⟨rfl, BW.out⟩
    go_wp2_with fail
    go_ret
    exact ⟨rfl, BW.out⟩
  have ih3 : ¬ (60 : Int) < (tn : Int) := by omega
  by_cases hin : (k, b) ∈ l
  · skip
    go_enter Tryd.func6, Tryd.ntmps6
    go_wp2_with fail
    refine (shown4_any _ (KB.out _ Q5.out)).mono ?_
    rintro e w1 ⟨rfl, hb1⟩
    have BW1 := Lib.hid (bel_call Q5.out hb1 Q5.out.size)
    have P1 := Lib.hid (old_below Q2.out hb1 (Nat.le_refl _))
    obtain ⟨x0, x1, x2⟩ := cells3 P1.out
    clear hb1 Q2 Q5
    go_wp2_with fail
    refine (CF1.out _ BW1.out).mono ?_
    rintro e w3 ⟨⟨r, rfl, hr⟩, hb3⟩
    have BW := Lib.hid (bel_call BW1.out hb3 BW1.out.size)
    have P3 := Lib.hid (old_below P1.out hb3 (Nat.le_refl _))
    have HR := Lib.hid hr
    clear hb3 hr x0 x1 x2 BW1 P1
    cases r
    · go_wp2_with fail
      go_ret
      exact ⟨rfl, BW.out⟩
    have hfew := HR.out (by simp)
    have hl20 : l.length ≤ 1000 := by have := hfew.1; omega
    have hk60 : k.length ≤ 60 := by have := HKN.out; omega
    have hb60 : b.length ≤ 60 := by have := HBN.out; omega
    have ht60 : t.length ≤ 60 := by have := HTN.out; omega
    have hn20 : n ≤ 20 := by have := hfew.1; have := HN.out; omega
    have hwr : IntKind.i64.wrap ((n : Int) + 1) = (n : Int) + 1 := by rw [IntKind.wrap_i64]; omega
    have HN1 := HN
    have hle : (n : Int) ≤ (n : Int) + 1 := by omega
    have hmem : (k, b) ∈ l := hin
    have hl1 : l.length ≤ 1000 := hl20
    have CT := Lib.hid (fun w (h : Below W.heap.size W w) => show Calls Tryd.prog 11 #[.agg #[.bool i, .slice A n c, .bool f], .slice K kn kc, .slice B bn bc] w fun e w' => AnsPT w' e i l f (cutF k b) ∧ Below w.heap.size w w' from by
      rw [HN.out, HKN.out, HBN.out]
      have h3 := ptag_any i f A l c K B k b kc bc w HCC.out HCM.out hl20 (by omega) (by omega) HKC.out HKM.out HBC.out HBM.out (RT.out w h) (RK.out w h) (RB.out w h) (KB.out w h)
      rw [tabF_again l k b hmem] at h3
      exact h3)
    have D2 := Lib.hid (fun w (h : Below W.heap.size W w) => show Calls Tryd.prog 17 #[.agg #[.bool i, .slice A n c, .bool f], .slice K kn kc, .slice B bn bc] w fun e w' => e = .returned (.bool true) ∧ Below w.heap.size w w' from by
      rw [HN.out, HKN.out, HBN.out]
      have h3 := had_any i f A l c K B k b kc bc w hl20 HKC.out HKM.out HBC.out HBM.out (RT.out w h) (RK.out w h) (RB.out w h)
      rw [decide_eq_true hmem] at h3
      exact h3)
    obtain ⟨F3, hF3⟩ : ∃ F, F = (f || (decide (t = cutF b k) && !decide ((b, k) ∈ l))) := ⟨_, rfl⟩
    obtain ⟨Y3, hY3⟩ : ∃ F, F = (decide (t = cutF b k) && (decide ((b, k) ∈ l) || !i)) := ⟨_, rfl⟩
    have CT2 := Lib.hid (fun A1 c1 w (hc1 : n ≤ c1) (hm1 : c1 ≤ 9223372036854775807) (h0 : Tab w w.heap.size A1 l) (h : Below W.heap.size W w) => show Calls Tryd.prog 11 #[.agg #[.bool i, .slice A1 n c1, .bool f], .slice K kn kc, .slice B bn bc] w fun e w' => AnsPT w' e i l f (cutF k b) ∧ Below w.heap.size w w' from by
      rw [HN1.out] at hc1 ⊢
      rw [HKN.out, HBN.out]
      have h3 := ptag_any i f A1 l c1 K B k b kc bc w hc1 hm1 hl1 (by omega) (by omega) HKC.out HKM.out HBC.out HBM.out h0 (RK.out w h) (RB.out w h) (KB.out w h)
      rw [tabF_again l k b hmem] at h3
      exact h3)
    have CC3 := Lib.hid (fun A1 c1 w (h0 : Tab w w.heap.size A1 l) (h : Below W.heap.size W w) => show Calls Tryd.prog 13 #[.agg #[.bool i, .slice A1 n c1, .bool f], .slice B bn bc, .slice K kn kc, .slice T tn tc] w fun e w' => e = .returned (.tuple #[.agg #[.bool i, .slice A1 n c1, .bool F3], .bool Y3]) ∧ Below w.heap.size w w' from by
      rw [HN1.out, HKN.out, HBN.out, HTN.out, hF3, hY3]
      exact pcheck_any i f A1 l c1 B K T b k t bc kc tc w hl1 (by omega) (by omega) (by omega) HBC.out HBM.out HKC.out HKM.out h0 (RB.out w h) (RK.out w h) (RG.out w h) (KB.out w h))
    clear hF3 hY3
    have CC4 := Lib.hid (fun A1 c1 T1 tc1 w (h0 : Tab w w.heap.size A1 l) (h1 : Rd w w.heap.size T1 (cutF k b)) (h : Below W.heap.size W w) => show Calls Tryd.prog 13 #[.agg #[.bool i, .slice A1 n c1, .bool F3], .slice K kn kc, .slice B bn bc, .slice T1 16 tc1] w fun e w' => e = .returned (.tuple #[.agg #[.bool i, .slice A1 n c1, .bool F3], .bool true]) ∧ Below w.heap.size w w' from by
      rw [HN1.out, HKN.out, HBN.out]
      have h3 := pcheck_any i F3 A1 l c1 K B T1 k b (cutF k b) kc bc tc1 w hl1 (by omega) (by omega) (by rw [cutF_length]; omega) HKC.out HKM.out HBC.out HBM.out h0 (RK.out w h) (RB.out w h) h1 (KB.out w h)
      rw [cutF_length, decide_eq_true rfl, decide_eq_true hmem, show (F3 || (true && !true)) = F3 by simp, show (true && (true || !i)) = true by simp] at h3
      exact h3)
    have S1 := Lib.hid (fun A1 A2 c1 c2 w (h1 : Tab w w.heap.size A1 l) (h2 : Tab w w.heap.size A2 l) => show Calls Tryd.prog 15 #[.agg #[.bool i, .slice A1 n c1, .bool f], .agg #[.bool i, .slice A2 n c2, .bool f]] w fun e w' => e = .returned (.bool true) ∧ Below w.heap.size w w' from by
      have h := rsame_any i f i f A1 A2 l l c1 c2 w hl1 hl1 h1 h2
      rw [show (i == i && f == f && decide (l = l)) = true by simp, ← HN1.out] at h
      exact h)
    have S2 := Lib.hid (fun A1 A2 c1 c2 w (h1 : Rd w w.heap.size A1 (cutF k b)) (h2 : Rd w w.heap.size A2 (cutF k b)) => show Calls Tryd.prog 16 #[.slice A1 16 c1, .slice A2 16 c2] w fun e w' => e = .returned (.bool true) ∧ w = w' from by
      have h := same_any A1 A2 (cutF k b) (cutF k b) c1 c2 _ _ w h1 h2
      rw [decide_eq_true rfl, cutF_length] at h
      exact h)
    have D1 := Lib.hid (fun A1 c1 w (h0 : Tab w w.heap.size A1 l) (h : Below W.heap.size W w) => show Calls Tryd.prog 17 #[.agg #[.bool i, .slice A1 n c1, .bool f], .slice K kn kc, .slice B bn bc] w fun e w' => e = .returned (.bool true) ∧ Below w.heap.size w w' from by
      rw [HN1.out, HKN.out, HBN.out]
      have h3 := had_any i f A1 l c1 K B k b kc bc w hl1 HKC.out HKM.out HBC.out HBM.out h0 (RK.out w h) (RB.out w h)
      rw [decide_eq_true hmem] at h3
      exact h3)
    clear hfew hl20 hk60 hb60 ht60 HR hl1 CF1 hmem hin
    generalize cutF k b = U at *
    clear HKN HBN HTN HKC HBC HTC HCC HKM HBM HCM
    obtain ⟨V0, hV0⟩ : ∃ x, x = w3 := ⟨_, rfl⟩
    obtain ⟨g0, hg0⟩ : ∃ x, x = W.heap.size + 1 := ⟨_, rfl⟩
    rw [← hg0, ← hV0]
    rw [← hV0] at P3 BW
    rw [← hg0] at P3
    clear hV0 hg0
    obtain ⟨x0, x1, x2⟩ := cells3 P3.out
    go_wp2_with fail
    clear x0 x1 x2
    with_reducible refine (CT.out _ BW.out).mono ?_
    rintro e w1 ⟨⟨n1, A1, c1, T1, tc1, rfl, hn1, h11, h12, h13, h14, h15, h16⟩, hb⟩
    have h9 : n = n1 := HN1.out.trans hn1.symm
    clear hn1
    subst h9
    obtain ⟨g1, hg1⟩ : ∃ g, g = w1.heap.size := ⟨_, rfl⟩
    obtain ⟨V1, hV1⟩ : ∃ V, V = w1.alloc (.cells (pcs i A1 n c1 f) 24) := ⟨_, rfl⟩
    have p1 := heap_alloc_new w1 (.cells (pcs i A1 n c1 f) 24)
    have b0 := (Below.refl w1.heap.size w1).alloc (Nat.le_refl _) (.cells (pcs i A1 n c1 f) 24)
    have b1 := bel_call hb b0 hb.size
    rw [← hV1] at p1 b0 b1
    rw [← hg1] at p1
    have nP3 := Lib.hid (old_below P3.out b1 (Nat.le_refl _))
    have nBW := Lib.hid (bel_call BW.out b1 BW.out.size)
    have t1 := (h15.below b0 (Nat.le_refl _)).more b0.size
    have u1 := (h16.below b0 (Nat.le_refl _)).more b0.size
    have RT1 := Lib.hid (fun w (h : Below V1.heap.size V1 w) => (t1.below h (Nat.le_refl _)).more h.size)
    have RX1 := Lib.hid (fun w (h : Below V1.heap.size V1 w) => (u1.below h (Nat.le_refl _)).more h.size)
    have HC1 := Lib.hid h11
    have HM1 := Lib.hid h12
    clear t1 u1 h15 h16 h11 h12 h13 h14
    clear P3 BW hb b0 b1
    have P3 := nP3
    have BW := nBW
    have G1 := Lib.hid p1
    have HV1 := Lib.hid hV1
    have HG1 := Lib.hid hg1
    have HZ1 := Lib.hid (show V1.heap.size = w1.heap.size + 1 by rw [hV1, World.size_alloc])
    clear nP3 nBW p1 hV1 hg1
    have B1 := Lib.hid (Below.refl V1.heap.size V1)
    obtain ⟨x0, x1, x2⟩ := cells3 G1.out
    rw [HV1.out] at x0 x1 x2
    go_wp2_with fail
    rw [← HV1.out]
    (try rw [← HZ1.out])
    (try rw [← HG1.out])
    clear HV1
    clear x0 x1 x2
    with_reducible refine (CT2.out _ _ _ HC1.out HM1.out (RT1.out _ B1.out) BW.out).mono ?_
    rintro e w2 ⟨⟨n2, A2, c2, T2, tc2, rfl, hn2, h11, h12, h13, h14, h15, h16⟩, hb⟩
    have h9 : n = n2 := HN1.out.trans hn2.symm
    clear hn2
    subst h9
    obtain ⟨g2, hg2⟩ : ∃ g, g = w2.heap.size := ⟨_, rfl⟩
    obtain ⟨V2, hV2⟩ : ∃ V, V = w2.alloc (.cells (pcs i A2 n c2 f) 24) := ⟨_, rfl⟩
    have p1 := heap_alloc_new w2 (.cells (pcs i A2 n c2 f) 24)
    have b0 := (Below.refl w2.heap.size w2).alloc (Nat.le_refl _) (.cells (pcs i A2 n c2 f) 24)
    have b1 := bel_call hb b0 hb.size
    rw [← hV2] at p1 b0 b1
    rw [← hg2] at p1
    have nP3 := Lib.hid (old_below P3.out b1 (Nat.le_refl _))
    have nG1 := Lib.hid (old_below G1.out b1 (Nat.le_refl _))
    have nBW := Lib.hid (bel_call BW.out b1 BW.out.size)
    have nB1 := Lib.hid (bel_call B1.out b1 B1.out.size)
    have t1 := (h15.below b0 (Nat.le_refl _)).more b0.size
    have u1 := (h16.below b0 (Nat.le_refl _)).more b0.size
    have RT2 := Lib.hid (fun w (h : Below V2.heap.size V2 w) => (t1.below h (Nat.le_refl _)).more h.size)
    have RX2 := Lib.hid (fun w (h : Below V2.heap.size V2 w) => (u1.below h (Nat.le_refl _)).more h.size)
    have HC2 := Lib.hid h11
    have HM2 := Lib.hid h12
    clear t1 u1 h15 h16 h11 h12 h13 h14
    clear P3 G1 BW B1 hb b0 b1
    have P3 := nP3
    have G1 := nG1
    have BW := nBW
    have B1 := nB1
    have G2 := Lib.hid p1
    have HV2 := Lib.hid hV2
    have HG2 := Lib.hid hg2
    have HZ2 := Lib.hid (show V2.heap.size = w2.heap.size + 1 by rw [hV2, World.size_alloc])
    clear nP3 nG1 nBW nB1 p1 hV2 hg2
    have B2 := Lib.hid (Below.refl V2.heap.size V2)
    obtain ⟨x0, x1, x2⟩ := cells3 G1.out
    rw [HV2.out] at x0 x1 x2
    go_wp2_with fail
    rw [← HV2.out]
    (try rw [← HZ2.out])
    (try rw [← HG2.out])
    clear HV2
    clear x0 x1 x2
    with_reducible refine (CC3.out _ _ _ (RT1.out _ B1.out) BW.out).mono ?_
    rintro e w3 ⟨rfl, hb⟩
    obtain ⟨g3, hg3⟩ : ∃ g, g = w3.heap.size := ⟨_, rfl⟩
    obtain ⟨V3, hV3⟩ : ∃ V, V = w3.alloc (.cells (pcs i A1 n c1 F3) 24) := ⟨_, rfl⟩
    have p1 := heap_alloc_new w3 (.cells (pcs i A1 n c1 F3) 24)
    have b0 := (Below.refl w3.heap.size w3).alloc (Nat.le_refl _) (.cells (pcs i A1 n c1 F3) 24)
    have b1 := bel_call hb b0 hb.size
    rw [← hV3] at p1 b0 b1
    rw [← hg3] at p1
    have nP3 := Lib.hid (old_below P3.out b1 (Nat.le_refl _))
    have nG1 := Lib.hid (old_below G1.out b1 (Nat.le_refl _))
    have nG2 := Lib.hid (old_below G2.out b1 (Nat.le_refl _))
    have nBW := Lib.hid (bel_call BW.out b1 BW.out.size)
    have nB1 := Lib.hid (bel_call B1.out b1 B1.out.size)
    have nB2 := Lib.hid (bel_call B2.out b1 B2.out.size)
    clear P3 G1 G2 BW B1 B2 hb b0 b1
    have P3 := nP3
    have G1 := nG1
    have G2 := nG2
    have BW := nBW
    have B1 := nB1
    have B2 := nB2
    have G3 := Lib.hid p1
    have HV3 := Lib.hid hV3
    have HG3 := Lib.hid hg3
    have HZ3 := Lib.hid (show V3.heap.size = w3.heap.size + 1 by rw [hV3, World.size_alloc])
    clear nP3 nG1 nG2 nBW nB1 nB2 p1 hV3 hg3
    obtain ⟨x0, x1, x2⟩ := cells3 G3.out
    rw [HV3.out] at x0 x1 x2
    go_wp2_with fail
    rw [← HV3.out]
    (try rw [← HZ3.out])
    (try rw [← HG3.out])
    clear HV3
    clear x0 x1 x2
    with_reducible refine (CC4.out _ _ _ _ _ (RT1.out _ B1.out) (RX1.out _ B1.out) BW.out).mono ?_
    rintro e w4 ⟨rfl, hb⟩
    obtain ⟨g4, hg4⟩ : ∃ g, g = w4.heap.size := ⟨_, rfl⟩
    obtain ⟨V4, hV4⟩ : ∃ V, V = w4.alloc (.cells (pcs i A1 n c1 F3) 24) := ⟨_, rfl⟩
    have p1 := heap_alloc_new w4 (.cells (pcs i A1 n c1 F3) 24)
    have b0 := (Below.refl w4.heap.size w4).alloc (Nat.le_refl _) (.cells (pcs i A1 n c1 F3) 24)
    have b1 := bel_call hb b0 hb.size
    rw [← hV4] at p1 b0 b1
    rw [← hg4] at p1
    have nP3 := Lib.hid (old_below P3.out b1 (Nat.le_refl _))
    have nG1 := Lib.hid (old_below G1.out b1 (Nat.le_refl _))
    have nG2 := Lib.hid (old_below G2.out b1 (Nat.le_refl _))
    have nG3 := Lib.hid (old_below G3.out b1 (Nat.le_refl _))
    have nBW := Lib.hid (bel_call BW.out b1 BW.out.size)
    have nB1 := Lib.hid (bel_call B1.out b1 B1.out.size)
    have nB2 := Lib.hid (bel_call B2.out b1 B2.out.size)
    clear P3 G1 G2 G3 BW B1 B2 hb b0 b1
    have P3 := nP3
    have G1 := nG1
    have G2 := nG2
    have G3 := nG3
    have BW := nBW
    have B1 := nB1
    have B2 := nB2
    have G4 := Lib.hid p1
    have HV4 := Lib.hid hV4
    have HG4 := Lib.hid hg4
    have HZ4 := Lib.hid (show V4.heap.size = w4.heap.size + 1 by rw [hV4, World.size_alloc])
    clear nP3 nG1 nG2 nG3 nBW nB1 nB2 p1 hV4 hg4
    go_wp2_with fail
    rw [← HV4.out]
    (try rw [← HZ4.out])
    (try rw [← HG4.out])
    clear HV4
    have BB0 := Lib.hid ((Below.refl V4.heap.size V4).drew)
    have F0 := Lib.hid (fun w (h : Below V4.heap.size V4 w) => bel_call BW.out h BW.out.size)
    have F1 := Lib.hid (fun w (h : Below V4.heap.size V4 w) => bel_call B1.out h B1.out.size)
    have F2 := Lib.hid (fun w (h : Below V4.heap.size V4 w) => bel_call B2.out h B2.out.size)
    have KEEP := Lib.hid (show ∀ w', Below V4.heap.size V4 w' → (Below V4.heap.size V4 w' ∧ w'.cell? ⟨g0, 0, none⟩ = some (.bool i) ∧ w'.cell? ⟨g0, 1, none⟩ = some (.slice A n c) ∧ w'.cell? ⟨g0, 2, none⟩ = some (.bool f) ∧ w'.cell? ⟨g1, 0, none⟩ = some (.bool i) ∧ w'.cell? ⟨g1, 1, none⟩ = some (.slice A1 n c1) ∧ w'.cell? ⟨g1, 2, none⟩ = some (.bool f) ∧ w'.cell? ⟨g2, 0, none⟩ = some (.bool i) ∧ w'.cell? ⟨g2, 1, none⟩ = some (.slice A2 n c2) ∧ w'.cell? ⟨g2, 2, none⟩ = some (.bool f) ∧ w'.cell? ⟨g3, 0, none⟩ = some (.bool i) ∧ w'.cell? ⟨g3, 1, none⟩ = some (.slice A1 n c1) ∧ w'.cell? ⟨g3, 2, none⟩ = some (.bool F3)) from fun w' h => by
      obtain ⟨a00, a01, a02⟩ := cells3 (old_below P3.out h (Nat.le_refl _))
      obtain ⟨a10, a11, a12⟩ := cells3 (old_below G1.out h (Nat.le_refl _))
      obtain ⟨a20, a21, a22⟩ := cells3 (old_below G2.out h (Nat.le_refl _))
      obtain ⟨a30, a31, a32⟩ := cells3 (old_below G3.out h (Nat.le_refl _))
      exact ⟨h, a00, a01, a02, a10, a11, a12, a20, a21, a22, a30, a31, a32⟩)
    go_region_held3 (fun w' => Below V4.heap.size V4 w' ∧ w'.cell? ⟨g0, 0, none⟩ = some (.bool i) ∧ w'.cell? ⟨g0, 1, none⟩ = some (.slice A n c) ∧ w'.cell? ⟨g0, 2, none⟩ = some (.bool f) ∧ w'.cell? ⟨g1, 0, none⟩ = some (.bool i) ∧ w'.cell? ⟨g1, 1, none⟩ = some (.slice A1 n c1) ∧ w'.cell? ⟨g1, 2, none⟩ = some (.bool f) ∧ w'.cell? ⟨g2, 0, none⟩ = some (.bool i) ∧ w'.cell? ⟨g2, 1, none⟩ = some (.slice A2 n c2) ∧ w'.cell? ⟨g2, 2, none⟩ = some (.bool f) ∧ w'.cell? ⟨g3, 0, none⟩ = some (.bool i) ∧ w'.cell? ⟨g3, 1, none⟩ = some (.slice A1 n c1) ∧ w'.cell? ⟨g3, 2, none⟩ = some (.bool F3))
      (first | with_reducible exact KEEP.out _ BB0.out | with_reducible exact KEEP.out _ BBs1.out | with_reducible exact KEEP.out _ BBh1.out | with_reducible exact KEEP.out _ BBh2.out)
      (first
      | (go_at_call 15; (with_reducible refine (S1.out _ _ _ _ _ ?_ ?_).mono ?_); (first | with_reducible exact RT1.out _ (F1.out _ BB0.out)); (first | with_reducible exact RT2.out _ (F2.out _ BB0.out)); rintro e ww ⟨rfl, hbb⟩; have BBs1 := Lib.hid (by first | with_reducible exact bel_call BB0.out hbb BB0.out.size); clear hbb)
      | (go_at_call 16; (with_reducible refine (S2.out _ _ _ _ _ ?_ ?_).mono ?_); (first | with_reducible exact RX1.out _ (F1.out _ BBs1.out)); (first | with_reducible exact RX2.out _ (F2.out _ BBs1.out)); rintro e ww ⟨rfl, rfl⟩)
      | (go_at_call 17; (with_reducible refine (D1.out _ _ _ ?_ ?_).mono ?_); (first | with_reducible exact RT1.out _ (F1.out _ BBs1.out)); (first | with_reducible exact F0.out _ BBs1.out); rintro e ww ⟨rfl, hbb⟩; have BBh1 := Lib.hid (by first | with_reducible exact bel_call BBs1.out hbb BBs1.out.size); clear hbb)
      | (go_at_call 17; (with_reducible refine (D2.out _ ?_).mono ?_); (first | with_reducible exact F0.out _ BBh1.out); rintro e ww ⟨rfl, hbb⟩; have BBh2 := Lib.hid (by first | with_reducible exact bel_call BBh1.out hbb BBh1.out.size); clear hbb))
    all_goals
      go_wp2_with fail
      go_ret
      exact ⟨by first | (simp; done) | (simp; omega), F0.out _ BBh2.out⟩
  · skip
    go_enter Tryd.func6, Tryd.ntmps6
    go_wp2_with fail
    refine (shown4_any _ (KB.out _ Q5.out)).mono ?_
    rintro e w1 ⟨rfl, hb1⟩
    have BW1 := Lib.hid (bel_call Q5.out hb1 Q5.out.size)
    have P1 := Lib.hid (old_below Q2.out hb1 (Nat.le_refl _))
    obtain ⟨x0, x1, x2⟩ := cells3 P1.out
    clear hb1 Q2 Q5
    go_wp2_with fail
    refine (CF1.out _ BW1.out).mono ?_
    rintro e w3 ⟨⟨r, rfl, hr⟩, hb3⟩
    have BW := Lib.hid (bel_call BW1.out hb3 BW1.out.size)
    have P3 := Lib.hid (old_below P1.out hb3 (Nat.le_refl _))
    have HR := Lib.hid hr
    clear hb3 hr x0 x1 x2 BW1 P1
    cases r
    · go_wp2_with fail
      go_ret
      exact ⟨rfl, BW.out⟩
    have hfew := HR.out (by simp)
    have hl20 : l.length ≤ 1000 := by have := hfew.1; omega
    have hk60 : k.length ≤ 60 := by have := HKN.out; omega
    have hb60 : b.length ≤ 60 := by have := HBN.out; omega
    have ht60 : t.length ≤ 60 := by have := HTN.out; omega
    have hn20 : n ≤ 20 := by have := hfew.1; have := HN.out; omega
    have hwr : IntKind.i64.wrap ((n : Int) + 1) = (n : Int) + 1 := by rw [IntKind.wrap_i64]; omega
    obtain ⟨L1, hL1⟩ : ∃ L, L = tabF l k b := ⟨_, rfl⟩
    obtain ⟨N1, hN1⟩ : ∃ n, n = L1.length := ⟨_, rfl⟩
    have HN1 := Lib.hid hN1
    have hmem : (k, b) ∈ L1 := by rw [hL1]; exact tabF_mem l k b
    have hN2 : N1 = n + 1 := by rw [hN1, hL1, HN.out]; unfold tabF; rw [if_neg hin, List.length_append]; rfl
    have hl1 : L1.length ≤ 1000 := by have := hfew.1; have := HN.out; omega
    have hle : (N1 : Int) ≤ (n : Int) + 1 := by omega
    have hne : ¬ (N1 : Int) = (n : Int) := by omega
    have CT := Lib.hid (fun w (h : Below W.heap.size W w) => show Calls Tryd.prog 11 #[.agg #[.bool i, .slice A n c, .bool f], .slice K kn kc, .slice B bn bc] w fun e w' => AnsPT w' e i L1 f (cutF k b) ∧ Below w.heap.size w w' from by
      rw [HN.out, HKN.out, HBN.out, hL1]
      exact ptag_any i f A l c K B k b kc bc w HCC.out HCM.out hl20 (by omega) (by omega) HKC.out HKM.out HBC.out HBM.out (RT.out w h) (RK.out w h) (RB.out w h) (KB.out w h))
    have D2 := Lib.hid (fun w (h : Below W.heap.size W w) => show Calls Tryd.prog 17 #[.agg #[.bool i, .slice A n c, .bool f], .slice K kn kc, .slice B bn bc] w fun e w' => e = .returned (.bool false) ∧ Below w.heap.size w w' from by
      rw [HN.out, HKN.out, HBN.out]
      have h3 := had_any i f A l c K B k b kc bc w hl20 HKC.out HKM.out HBC.out HBM.out (RT.out w h) (RK.out w h) (RB.out w h)
      rw [decide_eq_false hin] at h3
      exact h3)
    clear hN2 hN1 hL1
    obtain ⟨F3, hF3⟩ : ∃ F, F = (f || (decide (t = cutF b k) && !decide ((b, k) ∈ L1))) := ⟨_, rfl⟩
    obtain ⟨Y3, hY3⟩ : ∃ F, F = (decide (t = cutF b k) && (decide ((b, k) ∈ L1) || !i)) := ⟨_, rfl⟩
    have CT2 := Lib.hid (fun A1 c1 w (hc1 : N1 ≤ c1) (hm1 : c1 ≤ 9223372036854775807) (h0 : Tab w w.heap.size A1 L1) (h : Below W.heap.size W w) => show Calls Tryd.prog 11 #[.agg #[.bool i, .slice A1 N1 c1, .bool f], .slice K kn kc, .slice B bn bc] w fun e w' => AnsPT w' e i L1 f (cutF k b) ∧ Below w.heap.size w w' from by
      rw [HN1.out] at hc1 ⊢
      rw [HKN.out, HBN.out]
      have h3 := ptag_any i f A1 L1 c1 K B k b kc bc w hc1 hm1 hl1 (by omega) (by omega) HKC.out HKM.out HBC.out HBM.out h0 (RK.out w h) (RB.out w h) (KB.out w h)
      rw [tabF_again L1 k b hmem] at h3
      exact h3)
    have CC3 := Lib.hid (fun A1 c1 w (h0 : Tab w w.heap.size A1 L1) (h : Below W.heap.size W w) => show Calls Tryd.prog 13 #[.agg #[.bool i, .slice A1 N1 c1, .bool f], .slice B bn bc, .slice K kn kc, .slice T tn tc] w fun e w' => e = .returned (.tuple #[.agg #[.bool i, .slice A1 N1 c1, .bool F3], .bool Y3]) ∧ Below w.heap.size w w' from by
      rw [HN1.out, HKN.out, HBN.out, HTN.out, hF3, hY3]
      exact pcheck_any i f A1 L1 c1 B K T b k t bc kc tc w hl1 (by omega) (by omega) (by omega) HBC.out HBM.out HKC.out HKM.out h0 (RB.out w h) (RK.out w h) (RG.out w h) (KB.out w h))
    clear hF3 hY3
    have CC4 := Lib.hid (fun A1 c1 T1 tc1 w (h0 : Tab w w.heap.size A1 L1) (h1 : Rd w w.heap.size T1 (cutF k b)) (h : Below W.heap.size W w) => show Calls Tryd.prog 13 #[.agg #[.bool i, .slice A1 N1 c1, .bool F3], .slice K kn kc, .slice B bn bc, .slice T1 16 tc1] w fun e w' => e = .returned (.tuple #[.agg #[.bool i, .slice A1 N1 c1, .bool F3], .bool true]) ∧ Below w.heap.size w w' from by
      rw [HN1.out, HKN.out, HBN.out]
      have h3 := pcheck_any i F3 A1 L1 c1 K B T1 k b (cutF k b) kc bc tc1 w hl1 (by omega) (by omega) (by rw [cutF_length]; omega) HKC.out HKM.out HBC.out HBM.out h0 (RK.out w h) (RB.out w h) h1 (KB.out w h)
      rw [cutF_length, decide_eq_true rfl, decide_eq_true hmem, show (F3 || (true && !true)) = F3 by simp, show (true && (true || !i)) = true by simp] at h3
      exact h3)
    have S1 := Lib.hid (fun A1 A2 c1 c2 w (h1 : Tab w w.heap.size A1 L1) (h2 : Tab w w.heap.size A2 L1) => show Calls Tryd.prog 15 #[.agg #[.bool i, .slice A1 N1 c1, .bool f], .agg #[.bool i, .slice A2 N1 c2, .bool f]] w fun e w' => e = .returned (.bool true) ∧ Below w.heap.size w w' from by
      have h := rsame_any i f i f A1 A2 L1 L1 c1 c2 w hl1 hl1 h1 h2
      rw [show (i == i && f == f && decide (L1 = L1)) = true by simp, ← HN1.out] at h
      exact h)
    have S2 := Lib.hid (fun A1 A2 c1 c2 w (h1 : Rd w w.heap.size A1 (cutF k b)) (h2 : Rd w w.heap.size A2 (cutF k b)) => show Calls Tryd.prog 16 #[.slice A1 16 c1, .slice A2 16 c2] w fun e w' => e = .returned (.bool true) ∧ w = w' from by
      have h := same_any A1 A2 (cutF k b) (cutF k b) c1 c2 _ _ w h1 h2
      rw [decide_eq_true rfl, cutF_length] at h
      exact h)
    have D1 := Lib.hid (fun A1 c1 w (h0 : Tab w w.heap.size A1 L1) (h : Below W.heap.size W w) => show Calls Tryd.prog 17 #[.agg #[.bool i, .slice A1 N1 c1, .bool f], .slice K kn kc, .slice B bn bc] w fun e w' => e = .returned (.bool true) ∧ Below w.heap.size w w' from by
      rw [HN1.out, HKN.out, HBN.out]
      have h3 := had_any i f A1 L1 c1 K B k b kc bc w hl1 HKC.out HKM.out HBC.out HBM.out h0 (RK.out w h) (RB.out w h)
      rw [decide_eq_true hmem] at h3
      exact h3)
    clear hfew hl20 hk60 hb60 ht60 HR hl1 CF1 hmem hin
    generalize cutF k b = U at *
    clear HKN HBN HTN HKC HBC HTC HCC HKM HBM HCM
    obtain ⟨V0, hV0⟩ : ∃ x, x = w3 := ⟨_, rfl⟩
    obtain ⟨g0, hg0⟩ : ∃ x, x = W.heap.size + 1 := ⟨_, rfl⟩
    rw [← hg0, ← hV0]
    rw [← hV0] at P3 BW
    rw [← hg0] at P3
    clear hV0 hg0
    obtain ⟨x0, x1, x2⟩ := cells3 P3.out
    go_wp2_with fail
    clear x0 x1 x2
    with_reducible refine (CT.out _ BW.out).mono ?_
    rintro e w1 ⟨⟨n1, A1, c1, T1, tc1, rfl, hn1, h11, h12, h13, h14, h15, h16⟩, hb⟩
    have h9 : N1 = n1 := HN1.out.trans hn1.symm
    clear hn1
    subst h9
    obtain ⟨g1, hg1⟩ : ∃ g, g = w1.heap.size := ⟨_, rfl⟩
    obtain ⟨V1, hV1⟩ : ∃ V, V = w1.alloc (.cells (pcs i A1 N1 c1 f) 24) := ⟨_, rfl⟩
    have p1 := heap_alloc_new w1 (.cells (pcs i A1 N1 c1 f) 24)
    have b0 := (Below.refl w1.heap.size w1).alloc (Nat.le_refl _) (.cells (pcs i A1 N1 c1 f) 24)
    have b1 := bel_call hb b0 hb.size
    rw [← hV1] at p1 b0 b1
    rw [← hg1] at p1
    have nP3 := Lib.hid (old_below P3.out b1 (Nat.le_refl _))
    have nBW := Lib.hid (bel_call BW.out b1 BW.out.size)
    have t1 := (h15.below b0 (Nat.le_refl _)).more b0.size
    have u1 := (h16.below b0 (Nat.le_refl _)).more b0.size
    have RT1 := Lib.hid (fun w (h : Below V1.heap.size V1 w) => (t1.below h (Nat.le_refl _)).more h.size)
    have RX1 := Lib.hid (fun w (h : Below V1.heap.size V1 w) => (u1.below h (Nat.le_refl _)).more h.size)
    have HC1 := Lib.hid h11
    have HM1 := Lib.hid h12
    clear t1 u1 h15 h16 h11 h12 h13 h14
    clear P3 BW hb b0 b1
    have P3 := nP3
    have BW := nBW
    have G1 := Lib.hid p1
    have HV1 := Lib.hid hV1
    have HG1 := Lib.hid hg1
    have HZ1 := Lib.hid (show V1.heap.size = w1.heap.size + 1 by rw [hV1, World.size_alloc])
    clear nP3 nBW p1 hV1 hg1
    have B1 := Lib.hid (Below.refl V1.heap.size V1)
    obtain ⟨x0, x1, x2⟩ := cells3 G1.out
    rw [HV1.out] at x0 x1 x2
    go_wp2_with fail
    rw [← HV1.out]
    (try rw [← HZ1.out])
    (try rw [← HG1.out])
    clear HV1
    clear x0 x1 x2
    with_reducible refine (CT2.out _ _ _ HC1.out HM1.out (RT1.out _ B1.out) BW.out).mono ?_
    rintro e w2 ⟨⟨n2, A2, c2, T2, tc2, rfl, hn2, h11, h12, h13, h14, h15, h16⟩, hb⟩
    have h9 : N1 = n2 := HN1.out.trans hn2.symm
    clear hn2
    subst h9
    obtain ⟨g2, hg2⟩ : ∃ g, g = w2.heap.size := ⟨_, rfl⟩
    obtain ⟨V2, hV2⟩ : ∃ V, V = w2.alloc (.cells (pcs i A2 N1 c2 f) 24) := ⟨_, rfl⟩
    have p1 := heap_alloc_new w2 (.cells (pcs i A2 N1 c2 f) 24)
    have b0 := (Below.refl w2.heap.size w2).alloc (Nat.le_refl _) (.cells (pcs i A2 N1 c2 f) 24)
    have b1 := bel_call hb b0 hb.size
    rw [← hV2] at p1 b0 b1
    rw [← hg2] at p1
    have nP3 := Lib.hid (old_below P3.out b1 (Nat.le_refl _))
    have nG1 := Lib.hid (old_below G1.out b1 (Nat.le_refl _))
    have nBW := Lib.hid (bel_call BW.out b1 BW.out.size)
    have nB1 := Lib.hid (bel_call B1.out b1 B1.out.size)
    have t1 := (h15.below b0 (Nat.le_refl _)).more b0.size
    have u1 := (h16.below b0 (Nat.le_refl _)).more b0.size
    have RT2 := Lib.hid (fun w (h : Below V2.heap.size V2 w) => (t1.below h (Nat.le_refl _)).more h.size)
    have RX2 := Lib.hid (fun w (h : Below V2.heap.size V2 w) => (u1.below h (Nat.le_refl _)).more h.size)
    have HC2 := Lib.hid h11
    have HM2 := Lib.hid h12
    clear t1 u1 h15 h16 h11 h12 h13 h14
    clear P3 G1 BW B1 hb b0 b1
    have P3 := nP3
    have G1 := nG1
    have BW := nBW
    have B1 := nB1
    have G2 := Lib.hid p1
    have HV2 := Lib.hid hV2
    have HG2 := Lib.hid hg2
    have HZ2 := Lib.hid (show V2.heap.size = w2.heap.size + 1 by rw [hV2, World.size_alloc])
    clear nP3 nG1 nBW nB1 p1 hV2 hg2
    have B2 := Lib.hid (Below.refl V2.heap.size V2)
    obtain ⟨x0, x1, x2⟩ := cells3 G1.out
    rw [HV2.out] at x0 x1 x2
    go_wp2_with fail
    rw [← HV2.out]
    (try rw [← HZ2.out])
    (try rw [← HG2.out])
    clear HV2
    clear x0 x1 x2
    with_reducible refine (CC3.out _ _ _ (RT1.out _ B1.out) BW.out).mono ?_
    rintro e w3 ⟨rfl, hb⟩
    obtain ⟨g3, hg3⟩ : ∃ g, g = w3.heap.size := ⟨_, rfl⟩
    obtain ⟨V3, hV3⟩ : ∃ V, V = w3.alloc (.cells (pcs i A1 N1 c1 F3) 24) := ⟨_, rfl⟩
    have p1 := heap_alloc_new w3 (.cells (pcs i A1 N1 c1 F3) 24)
    have b0 := (Below.refl w3.heap.size w3).alloc (Nat.le_refl _) (.cells (pcs i A1 N1 c1 F3) 24)
    have b1 := bel_call hb b0 hb.size
    rw [← hV3] at p1 b0 b1
    rw [← hg3] at p1
    have nP3 := Lib.hid (old_below P3.out b1 (Nat.le_refl _))
    have nG1 := Lib.hid (old_below G1.out b1 (Nat.le_refl _))
    have nG2 := Lib.hid (old_below G2.out b1 (Nat.le_refl _))
    have nBW := Lib.hid (bel_call BW.out b1 BW.out.size)
    have nB1 := Lib.hid (bel_call B1.out b1 B1.out.size)
    have nB2 := Lib.hid (bel_call B2.out b1 B2.out.size)
    clear P3 G1 G2 BW B1 B2 hb b0 b1
    have P3 := nP3
    have G1 := nG1
    have G2 := nG2
    have BW := nBW
    have B1 := nB1
    have B2 := nB2
    have G3 := Lib.hid p1
    have HV3 := Lib.hid hV3
    have HG3 := Lib.hid hg3
    have HZ3 := Lib.hid (show V3.heap.size = w3.heap.size + 1 by rw [hV3, World.size_alloc])
    clear nP3 nG1 nG2 nBW nB1 nB2 p1 hV3 hg3
    obtain ⟨x0, x1, x2⟩ := cells3 G3.out
    rw [HV3.out] at x0 x1 x2
    go_wp2_with fail
    rw [← HV3.out]
    (try rw [← HZ3.out])
    (try rw [← HG3.out])
    clear HV3
    clear x0 x1 x2
    with_reducible refine (CC4.out _ _ _ _ _ (RT1.out _ B1.out) (RX1.out _ B1.out) BW.out).mono ?_
    rintro e w4 ⟨rfl, hb⟩
    obtain ⟨g4, hg4⟩ : ∃ g, g = w4.heap.size := ⟨_, rfl⟩
    obtain ⟨V4, hV4⟩ : ∃ V, V = w4.alloc (.cells (pcs i A1 N1 c1 F3) 24) := ⟨_, rfl⟩
    have p1 := heap_alloc_new w4 (.cells (pcs i A1 N1 c1 F3) 24)
    have b0 := (Below.refl w4.heap.size w4).alloc (Nat.le_refl _) (.cells (pcs i A1 N1 c1 F3) 24)
    have b1 := bel_call hb b0 hb.size
    rw [← hV4] at p1 b0 b1
    rw [← hg4] at p1
    have nP3 := Lib.hid (old_below P3.out b1 (Nat.le_refl _))
    have nG1 := Lib.hid (old_below G1.out b1 (Nat.le_refl _))
    have nG2 := Lib.hid (old_below G2.out b1 (Nat.le_refl _))
    have nG3 := Lib.hid (old_below G3.out b1 (Nat.le_refl _))
    have nBW := Lib.hid (bel_call BW.out b1 BW.out.size)
    have nB1 := Lib.hid (bel_call B1.out b1 B1.out.size)
    have nB2 := Lib.hid (bel_call B2.out b1 B2.out.size)
    clear P3 G1 G2 G3 BW B1 B2 hb b0 b1
    have P3 := nP3
    have G1 := nG1
    have G2 := nG2
    have G3 := nG3
    have BW := nBW
    have B1 := nB1
    have B2 := nB2
    have G4 := Lib.hid p1
    have HV4 := Lib.hid hV4
    have HG4 := Lib.hid hg4
    have HZ4 := Lib.hid (show V4.heap.size = w4.heap.size + 1 by rw [hV4, World.size_alloc])
    clear nP3 nG1 nG2 nG3 nBW nB1 nB2 p1 hV4 hg4
    go_wp2_with fail
    rw [← HV4.out]
    (try rw [← HZ4.out])
    (try rw [← HG4.out])
    clear HV4
    have BB0 := Lib.hid ((Below.refl V4.heap.size V4).drew)
    have F0 := Lib.hid (fun w (h : Below V4.heap.size V4 w) => bel_call BW.out h BW.out.size)
    have F1 := Lib.hid (fun w (h : Below V4.heap.size V4 w) => bel_call B1.out h B1.out.size)
    have F2 := Lib.hid (fun w (h : Below V4.heap.size V4 w) => bel_call B2.out h B2.out.size)
    have KEEP := Lib.hid (show ∀ w', Below V4.heap.size V4 w' → (Below V4.heap.size V4 w' ∧ w'.cell? ⟨g0, 0, none⟩ = some (.bool i) ∧ w'.cell? ⟨g0, 1, none⟩ = some (.slice A n c) ∧ w'.cell? ⟨g0, 2, none⟩ = some (.bool f) ∧ w'.cell? ⟨g1, 0, none⟩ = some (.bool i) ∧ w'.cell? ⟨g1, 1, none⟩ = some (.slice A1 N1 c1) ∧ w'.cell? ⟨g1, 2, none⟩ = some (.bool f) ∧ w'.cell? ⟨g2, 0, none⟩ = some (.bool i) ∧ w'.cell? ⟨g2, 1, none⟩ = some (.slice A2 N1 c2) ∧ w'.cell? ⟨g2, 2, none⟩ = some (.bool f) ∧ w'.cell? ⟨g3, 0, none⟩ = some (.bool i) ∧ w'.cell? ⟨g3, 1, none⟩ = some (.slice A1 N1 c1) ∧ w'.cell? ⟨g3, 2, none⟩ = some (.bool F3)) from fun w' h => by
      obtain ⟨a00, a01, a02⟩ := cells3 (old_below P3.out h (Nat.le_refl _))
      obtain ⟨a10, a11, a12⟩ := cells3 (old_below G1.out h (Nat.le_refl _))
      obtain ⟨a20, a21, a22⟩ := cells3 (old_below G2.out h (Nat.le_refl _))
      obtain ⟨a30, a31, a32⟩ := cells3 (old_below G3.out h (Nat.le_refl _))
      exact ⟨h, a00, a01, a02, a10, a11, a12, a20, a21, a22, a30, a31, a32⟩)
    go_region_held3 (fun w' => Below V4.heap.size V4 w' ∧ w'.cell? ⟨g0, 0, none⟩ = some (.bool i) ∧ w'.cell? ⟨g0, 1, none⟩ = some (.slice A n c) ∧ w'.cell? ⟨g0, 2, none⟩ = some (.bool f) ∧ w'.cell? ⟨g1, 0, none⟩ = some (.bool i) ∧ w'.cell? ⟨g1, 1, none⟩ = some (.slice A1 N1 c1) ∧ w'.cell? ⟨g1, 2, none⟩ = some (.bool f) ∧ w'.cell? ⟨g2, 0, none⟩ = some (.bool i) ∧ w'.cell? ⟨g2, 1, none⟩ = some (.slice A2 N1 c2) ∧ w'.cell? ⟨g2, 2, none⟩ = some (.bool f) ∧ w'.cell? ⟨g3, 0, none⟩ = some (.bool i) ∧ w'.cell? ⟨g3, 1, none⟩ = some (.slice A1 N1 c1) ∧ w'.cell? ⟨g3, 2, none⟩ = some (.bool F3))
      (first | with_reducible exact KEEP.out _ BB0.out | with_reducible exact KEEP.out _ BBs1.out | with_reducible exact KEEP.out _ BBh1.out | with_reducible exact KEEP.out _ BBh2.out)
      (first
      | (go_at_call 15; (with_reducible refine (S1.out _ _ _ _ _ ?_ ?_).mono ?_); (first | with_reducible exact RT1.out _ (F1.out _ BB0.out)); (first | with_reducible exact RT2.out _ (F2.out _ BB0.out)); rintro e ww ⟨rfl, hbb⟩; have BBs1 := Lib.hid (by first | with_reducible exact bel_call BB0.out hbb BB0.out.size); clear hbb)
      | (go_at_call 16; (with_reducible refine (S2.out _ _ _ _ _ ?_ ?_).mono ?_); (first | with_reducible exact RX1.out _ (F1.out _ BBs1.out)); (first | with_reducible exact RX2.out _ (F2.out _ BBs1.out)); rintro e ww ⟨rfl, rfl⟩)
      | (go_at_call 17; (with_reducible refine (D1.out _ _ _ ?_ ?_).mono ?_); (first | with_reducible exact RT1.out _ (F1.out _ BBs1.out)); (first | with_reducible exact F0.out _ BBs1.out); rintro e ww ⟨rfl, hbb⟩; have BBh1 := Lib.hid (by first | with_reducible exact bel_call BBs1.out hbb BBs1.out.size); clear hbb)
      | (go_at_call 17; (with_reducible refine (D2.out _ ?_).mono ?_); (first | with_reducible exact F0.out _ BBh1.out); rintro e ww ⟨rfl, hbb⟩; have BBh2 := Lib.hid (by first | with_reducible exact bel_call BBh1.out hbb BBh1.out.size); clear hbb))
    all_goals
      go_wp2_with fail
      go_ret
      exact ⟨by first | (simp; done) | (simp; omega), F0.out _ BBh2.out⟩
end Go.Proofs.YtcfncbbdlbdbnaaDoor
