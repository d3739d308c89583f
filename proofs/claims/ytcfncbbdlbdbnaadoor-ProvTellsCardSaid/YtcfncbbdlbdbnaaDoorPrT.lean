
/- ProvTells' walk. -/
import Derived.Test.YtcfncbbdlbdbnaaDoorPrS
import Derived.Test.YtcfncbbdlbdbnaaDoorPrM
import Derived.Test.YtcfncbbdlbdbnaaDoorPrN
import Derived.Test.YtcfncbbdlbdbnaaDoorPrO
namespace Go.Proofs.YtcfncbbdlbdbnaaDoor
open Go.RowKit

set_option maxRecDepth 100000 in
set_option maxHeartbeats 8000000 in
theorem provTells_walk (i f : Bool) (A : Option Addr) (l : List Pr) (c : Nat) (j g : Bool) (C : Option Addr) (m : List Pr) (d : Nat) (K : Option Addr) (k : List UInt8) (kc : Nat) (B : Option Addr) (b : List UInt8) (bc : Nat) (T : Option Addr) (t : List UInt8) (tc : Nat) (W : World)
    (hc : l.length ≤ c) (hcm : c ≤ 9223372036854775807) (hT : Tab W W.heap.size A l) (hd : m.length ≤ d) (hdm : d ≤ 9223372036854775807) (hU : Tab W W.heap.size C m) (hkc : k.length ≤ kc) (hkm : kc ≤ 9223372036854775807) (hk : Rd W W.heap.size K k) (hbc : b.length ≤ bc) (hbm : bc ≤ 9223372036854775807) (hb : Rd W W.heap.size B b) (htc : t.length ≤ tc) (htm : tc ≤ 9223372036854775807) (ht : Rd W W.heap.size T t) (hK : Ks W) :
    Calls Tryd.prog 3 #[.agg #[.bool i, .slice A l.length c, .bool f, .bool j, .slice C m.length d, .bool g, .slice K k.length kc, .slice B b.length bc, .slice T t.length tc]] W fun e W' => e = .returned (.bool true) ∧ Below W.heap.size W W' := by
  have hf3 := fold3
  have RK := Lib.hid (fun w (h : Below W.heap.size W w) => (hk.below h (Nat.le_refl _)).more h.size)
  have RB := Lib.hid (fun w (h : Below W.heap.size W w) => (hb.below h (Nat.le_refl _)).more h.size)
  have RG := Lib.hid (fun w (h : Below W.heap.size W w) => (ht.below h (Nat.le_refl _)).more h.size)
  have RT := Lib.hid (fun w (h : Below W.heap.size W w) => (hT.below h (Nat.le_refl _)).more h.size)
  have RU := Lib.hid (fun w (h : Below W.heap.size W w) => (hU.below h (Nat.le_refl _)).more h.size)
  have KB := Lib.hid (fun w (h : Below W.heap.size W w) => Ks.call hK h)
  have CF1 := Lib.hid (fun w (h : Below W.heap.size W w) => few_any i f A l c w hc hcm (RT.out w h))
  have CF2 := Lib.hid (fun w (h : Below W.heap.size W w) => few_any j g C m d w hd hdm (RU.out w h))
  obtain ⟨n, hn⟩ : ∃ n, n = l.length := ⟨_, rfl⟩
  obtain ⟨o, ho⟩ : ∃ n, n = m.length := ⟨_, rfl⟩
  obtain ⟨kn, hkn⟩ : ∃ n, n = k.length := ⟨_, rfl⟩
  obtain ⟨bn, hbn⟩ : ∃ n, n = b.length := ⟨_, rfl⟩
  obtain ⟨tn, htn⟩ : ∃ n, n = t.length := ⟨_, rfl⟩
  have HN := Lib.hid hn
  have HO := Lib.hid ho
  have HKN := Lib.hid hkn
  have HBN := Lib.hid hbn
  have HTN := Lib.hid htn
  have HKC := Lib.hid hkc
  have HBC := Lib.hid hbc
  have HTC := Lib.hid htc
  have HCC := Lib.hid hc
  have HKM := Lib.hid hkm
  have HBM := Lib.hid hbm
  have HCM := Lib.hid hcm
  have i63 : kn ≤ 9223372036854775807 ∧ bn ≤ 9223372036854775807 ∧ tn ≤ 9223372036854775807 := by omega
  obtain ⟨i631, i632, i633⟩ := i63
  rw [← hn] at CF1 ⊢
  rw [← ho] at CF2 ⊢
  rw [← hkn, ← hbn, ← htn]
  clear hk hb ht hT hU hK hn ho hkn hbn htn hkc hkm hbc hbm htc htm hc hcm hd hdm
  obtain ⟨-, -, q3, -, q5⟩ := alloc3 W (.cells #[.bool i, .slice A n c, .bool f, .bool j, .slice C o d, .bool g, .slice K kn kc, .slice B bn bc, .slice T tn tc] 27) (.cells (pcs i A n c f) 24) (.cells (pcs j C o d g) 24)
  obtain ⟨-, q2, -, -, -⟩ := alloc3 W (.cells #[.bool i, .slice A n c, .bool f, .bool j, .slice C o d, .bool g, .slice K kn kc, .slice B bn bc, .slice T tn tc] 27) (.cells (pcs i A n c f) 24) (.cells (pcs j C o d g) 24)
  have Q2 := Lib.hid q2
  have Q3 := Lib.hid q3
  have Q5 := Lib.hid q5
  clear q2 q3 q5
  by_cases h1 : 60 < kn
  · have ih1 : (60 : Int) < (kn : Int) := by omega
    go_enter Tryd.func3, Tryd.ntmps3
    go_wp2_with fail
    refine (shown4_any _ (KB.out _ Q5.out)).mono ?_
    rintro e w1 ⟨rfl, hb1⟩
    have BW1 := Lib.hid (bel_call Q5.out hb1 Q5.out.size)
    have P1 := Lib.hid (old_below Q2.out hb1 (Nat.le_refl _))
    have O1 := Lib.hid (old_below Q3.out hb1 (Nat.le_refl _))
    obtain ⟨x0, x1, x2⟩ := cells3 P1.out
    clear hb1 Q2 Q3 Q5
    go_wp2_with fail
    refine (CF1.out _ BW1.out).mono ?_
    rintro e w2 ⟨⟨r, rfl, hr⟩, hb2⟩
    have BW2 := Lib.hid (bel_call BW1.out hb2 BW1.out.size)
    have P2 := Lib.hid (old_below P1.out hb2 (Nat.le_refl _))
    have O2 := Lib.hid (old_below O1.out hb2 (Nat.le_refl _))
    obtain ⟨y0, y1, y2⟩ := cells3 O2.out
    have HR := Lib.hid hr
    clear hb2 hr x0 x1 x2 BW1 P1 O1
    cases r
    · go_wp2_with fail
      go_ret
      exact ⟨rfl, BW2.out⟩
    go_wp2_with fail
    refine (CF2.out _ BW2.out).mono ?_
    rintro e w3 ⟨⟨r2, rfl, hr2⟩, hb3⟩
    have BW := Lib.hid (bel_call BW2.out hb3 BW2.out.size)
    have P3 := Lib.hid (old_below P2.out hb3 (Nat.le_refl _))
    have O3 := Lib.hid (old_below O2.out hb3 (Nat.le_refl _))
    have HR2 := Lib.hid hr2
    clear hb3 hr2 y0 y1 y2 BW2 P2 O2
    cases r2
    · go_wp2_with fail
      go_ret
      exact ⟨rfl, BW.out⟩
    go_wp2_with fail
    go_ret
    exact ⟨rfl, BW.out⟩
  have ih1 : ¬ (60 : Int) < (kn : Int) := by omega
  by_cases h2 : 60 < bn
  · have ih2 : (60 : Int) < (bn : Int) := by omega
    go_enter Tryd.func3, Tryd.ntmps3
    go_wp2_with fail
    refine (shown4_any _ (KB.out _ Q5.out)).mono ?_
    rintro e w1 ⟨rfl, hb1⟩
    have BW1 := Lib.hid (bel_call Q5.out hb1 Q5.out.size)
    have P1 := Lib.hid (old_below Q2.out hb1 (Nat.le_refl _))
    have O1 := Lib.hid (old_below Q3.out hb1 (Nat.le_refl _))
    obtain ⟨x0, x1, x2⟩ := cells3 P1.out
    clear hb1 Q2 Q3 Q5
    go_wp2_with fail
    refine (CF1.out _ BW1.out).mono ?_
    rintro e w2 ⟨⟨r, rfl, hr⟩, hb2⟩
    have BW2 := Lib.hid (bel_call BW1.out hb2 BW1.out.size)
    have P2 := Lib.hid (old_below P1.out hb2 (Nat.le_refl _))
    have O2 := Lib.hid (old_below O1.out hb2 (Nat.le_refl _))
    obtain ⟨y0, y1, y2⟩ := cells3 O2.out
    have HR := Lib.hid hr
    clear hb2 hr x0 x1 x2 BW1 P1 O1
    cases r
    · go_wp2_with fail
      go_ret
      exact ⟨rfl, BW2.out⟩
    go_wp2_with fail
    refine (CF2.out _ BW2.out).mono ?_
    rintro e w3 ⟨⟨r2, rfl, hr2⟩, hb3⟩
    have BW := Lib.hid (bel_call BW2.out hb3 BW2.out.size)
    have P3 := Lib.hid (old_below P2.out hb3 (Nat.le_refl _))
    have O3 := Lib.hid (old_below O2.out hb3 (Nat.le_refl _))
    have HR2 := Lib.hid hr2
    clear hb3 hr2 y0 y1 y2 BW2 P2 O2
    cases r2
    · go_wp2_with fail
      go_ret
      exact ⟨rfl, BW.out⟩
    go_wp2_with fail
    go_ret
    exact ⟨rfl, BW.out⟩
  have ih2 : ¬ (60 : Int) < (bn : Int) := by omega
  by_cases h3 : 60 < tn
  · have ih3 : (60 : Int) < (tn : Int) := by omega
    go_enter Tryd.func3, Tryd.ntmps3
    go_wp2_with fail
    refine (shown4_any _ (KB.out _ Q5.out)).mono ?_
    rintro e w1 ⟨rfl, hb1⟩
    have BW1 := Lib.hid (bel_call Q5.out hb1 Q5.out.size)
    have P1 := Lib.hid (old_below Q2.out hb1 (Nat.le_refl _))
    have O1 := Lib.hid (old_below Q3.out hb1 (Nat.le_refl _))
    obtain ⟨x0, x1, x2⟩ := cells3 P1.out
    clear hb1 Q2 Q3 Q5
    go_wp2_with fail
    refine (CF1.out _ BW1.out).mono ?_
    rintro e w2 ⟨⟨r, rfl, hr⟩, hb2⟩
    have BW2 := Lib.hid (bel_call BW1.out hb2 BW1.out.size)
    have P2 := Lib.hid (old_below P1.out hb2 (Nat.le_refl _))
    have O2 := Lib.hid (old_below O1.out hb2 (Nat.le_refl _))
    obtain ⟨y0, y1, y2⟩ := cells3 O2.out
    have HR := Lib.hid hr
    clear hb2 hr x0 x1 x2 BW1 P1 O1
    cases r
    · go_wp2_with fail
      go_ret
      exact ⟨rfl, BW2.out⟩
    go_wp2_with fail
    refine (CF2.out _ BW2.out).mono ?_
    rintro e w3 ⟨⟨r2, rfl, hr2⟩, hb3⟩
    have BW := Lib.hid (bel_call BW2.out hb3 BW2.out.size)
    have P3 := Lib.hid (old_below P2.out hb3 (Nat.le_refl _))
    have O3 := Lib.hid (old_below O2.out hb3 (Nat.le_refl _))
    have HR2 := Lib.hid hr2
    clear hb3 hr2 y0 y1 y2 BW2 P2 O2
    cases r2
    · go_wp2_with fail
      go_ret
      exact ⟨rfl, BW.out⟩
    go_wp2_with fail
    go_ret
    exact ⟨rfl, BW.out⟩
  have ih3 : ¬ (60 : Int) < (tn : Int) := by omega
  go_enter Tryd.func3, Tryd.ntmps3
  go_wp2_with fail
  refine (shown4_any _ (KB.out _ Q5.out)).mono ?_
  rintro e w1 ⟨rfl, hb1⟩
  have BW1 := Lib.hid (bel_call Q5.out hb1 Q5.out.size)
  have P1 := Lib.hid (old_below Q2.out hb1 (Nat.le_refl _))
  have O1 := Lib.hid (old_below Q3.out hb1 (Nat.le_refl _))
  obtain ⟨x0, x1, x2⟩ := cells3 P1.out
  clear hb1 Q2 Q3 Q5
  go_wp2_with fail
  refine (CF1.out _ BW1.out).mono ?_
  rintro e w2 ⟨⟨r, rfl, hr⟩, hb2⟩
  have BW2 := Lib.hid (bel_call BW1.out hb2 BW1.out.size)
  have P2 := Lib.hid (old_below P1.out hb2 (Nat.le_refl _))
  have O2 := Lib.hid (old_below O1.out hb2 (Nat.le_refl _))
  obtain ⟨y0, y1, y2⟩ := cells3 O2.out
  have HR := Lib.hid hr
  clear hb2 hr x0 x1 x2 BW1 P1 O1
  cases r
  · go_wp2_with fail
    go_ret
    exact ⟨rfl, BW2.out⟩
  go_wp2_with fail
  refine (CF2.out _ BW2.out).mono ?_
  rintro e w3 ⟨⟨r2, rfl, hr2⟩, hb3⟩
  have BW := Lib.hid (bel_call BW2.out hb3 BW2.out.size)
  have P3 := Lib.hid (old_below P2.out hb3 (Nat.le_refl _))
  have O3 := Lib.hid (old_below O2.out hb3 (Nat.le_refl _))
  have HR2 := Lib.hid hr2
  clear hb3 hr2 y0 y1 y2 BW2 P2 O2
  cases r2
  · go_wp2_with fail
    go_ret
    exact ⟨rfl, BW.out⟩
  have hfew := HR.out (by simp)
  have hfew2 := HR2.out (by simp)
  have hl20 : l.length ≤ 1000 := by have := hfew.1; omega
  have hm20 : m.length ≤ 1000 := by have := hfew2.1; omega
  have hk60 : k.length ≤ 60 := by have := HKN.out; omega
  have hb60 : b.length ≤ 60 := by have := HBN.out; omega
  have ht60 : t.length ≤ 60 := by have := HTN.out; omega
  have CT := Lib.hid (fun w (h : Below W.heap.size W w) => show Calls Tryd.prog 11 #[.agg #[.bool i, .slice A n c, .bool f], .slice K kn kc, .slice B bn bc] w fun e w' => AnsPT w' e i (tabF l k b) f (cutF k b) ∧ Below w.heap.size w w' from by
    rw [HN.out, HKN.out, HBN.out]
    exact ptag_any i f A l c K B k b kc bc w HCC.out HCM.out hl20 (by omega) (by omega) HKC.out HKM.out HBC.out HBM.out (RT.out w h) (RK.out w h) (RB.out w h) (KB.out w h))
  have CT2 := Lib.hid (fun w (h : Below W.heap.size W w) => show Calls Tryd.prog 12 #[.agg #[.bool i, .slice A n c, .bool f], .slice K kn kc, .slice B bn bc] w fun e w' => AnsPT w' e i (tabF l k b) f (cutF k b) ∧ Below w.heap.size w w' from by
    rw [HN.out, HKN.out, HBN.out]
    exact rtag_any i f A l c K B k b kc bc w HCC.out HCM.out hl20 (by omega) (by omega) HKC.out HKM.out HBC.out HBM.out (RT.out w h) (RK.out w h) (RB.out w h))
  obtain ⟨F3, hF3⟩ : ∃ F, F = (f || (decide (t = cutF k b) && !decide ((k, b) ∈ l))) := ⟨_, rfl⟩
  obtain ⟨Y3, hY3⟩ : ∃ F, F = (decide (t = cutF k b) && (decide ((k, b) ∈ l) || !i)) := ⟨_, rfl⟩
  obtain ⟨F4, hF4⟩ : ∃ F, F = (f || (decide (cutF k b = cutF k b) && !decide ((k, b) ∈ l))) := ⟨_, rfl⟩
  obtain ⟨Y4, hY4⟩ : ∃ F, F = (decide (cutF k b = cutF k b) && (decide ((k, b) ∈ l) || !i)) := ⟨_, rfl⟩
  have CC1 := Lib.hid (fun w (h : Below W.heap.size W w) => show Calls Tryd.prog 13 #[.agg #[.bool i, .slice A n c, .bool f], .slice K kn kc, .slice B bn bc, .slice T tn tc] w fun e w' => e = .returned (.tuple #[.agg #[.bool i, .slice A n c, .bool F3], .bool Y3]) ∧ Below w.heap.size w w' from by
    rw [HN.out, HKN.out, HBN.out, HTN.out, hF3, hY3]
    exact pcheck_any i f A l c K B T k b t kc bc tc w hl20 (by omega) (by omega) (by omega) HKC.out HKM.out HBC.out HBM.out (RT.out w h) (RK.out w h) (RB.out w h) (RG.out w h) (KB.out w h))
  have CC2 := Lib.hid (fun w (h : Below W.heap.size W w) => show Calls Tryd.prog 14 #[.agg #[.bool i, .slice A n c, .bool f], .slice K kn kc, .slice B bn bc, .slice T tn tc] w fun e w' => e = .returned (.tuple #[.agg #[.bool i, .slice A n c, .bool F3], .bool Y3]) ∧ Below w.heap.size w w' from by
    rw [HN.out, HKN.out, HBN.out, HTN.out, hF3, hY3]
    exact rcheck_any i f A l c K B T k b t kc bc tc w hl20 (by omega) (by omega) HKC.out (RT.out w h) (RK.out w h) (RB.out w h) (RG.out w h))
  have CC3 := Lib.hid (fun T2 tc2 w (h2 : Rd w w.heap.size T2 (cutF k b)) (h : Below W.heap.size W w) => show Calls Tryd.prog 13 #[.agg #[.bool i, .slice A n c, .bool f], .slice K kn kc, .slice B bn bc, .slice T2 16 tc2] w fun e w' => e = .returned (.tuple #[.agg #[.bool i, .slice A n c, .bool F4], .bool Y4]) ∧ Below w.heap.size w w' from by
    rw [HN.out, HKN.out, HBN.out, hF4, hY4]
    have h3 := pcheck_any i f A l c K B T2 k b (cutF k b) kc bc tc2 w hl20 (by omega) (by omega) (by rw [cutF_length]; omega) HKC.out HKM.out HBC.out HBM.out (RT.out w h) (RK.out w h) (RB.out w h) h2 (KB.out w h)
    rw [cutF_length] at h3
    exact h3)
  have CC4 := Lib.hid (fun T2 tc2 w (h2 : Rd w w.heap.size T2 (cutF k b)) (h : Below W.heap.size W w) => show Calls Tryd.prog 14 #[.agg #[.bool i, .slice A n c, .bool f], .slice K kn kc, .slice B bn bc, .slice T2 16 tc2] w fun e w' => e = .returned (.tuple #[.agg #[.bool i, .slice A n c, .bool F4], .bool Y4]) ∧ Below w.heap.size w w' from by
    rw [HN.out, HKN.out, HBN.out, hF4, hY4]
    have h3 := rcheck_any i f A l c K B T2 k b (cutF k b) kc bc tc2 w hl20 (by omega) (by omega) HKC.out (RT.out w h) (RK.out w h) (RB.out w h) h2
    rw [cutF_length] at h3
    exact h3)
  clear hF3 hY3 hF4 hY4
  have hl1 : (tabF l k b).length ≤ 1000 := by have := hfew.1; unfold tabF; split <;> simp <;> omega
  obtain ⟨N1, hN1⟩ : ∃ n, n = (tabF l k b).length := ⟨_, rfl⟩
  have HN1 := Lib.hid hN1
  have S1 := Lib.hid (fun A1 A2 c1 c2 w (h1 : Tab w w.heap.size A1 (tabF l k b)) (h2 : Tab w w.heap.size A2 (tabF l k b)) => show Calls Tryd.prog 15 #[.agg #[.bool i, .slice A1 N1 c1, .bool f], .agg #[.bool i, .slice A2 N1 c2, .bool f]] w fun e w' => e = .returned (.bool true) ∧ Below w.heap.size w w' from by
    have h := rsame_any i f i f A1 A2 (tabF l k b) (tabF l k b) c1 c2 w hl1 hl1 h1 h2
    rw [show (i == i && f == f && decide (tabF l k b = tabF l k b)) = true by simp, ← hN1] at h
    exact h)
  have S2 := Lib.hid (fun A1 A2 c1 c2 w (h1 : Rd w w.heap.size A1 (cutF k b)) (h2 : Rd w w.heap.size A2 (cutF k b)) => show Calls Tryd.prog 16 #[.slice A1 16 c1, .slice A2 16 c2] w fun e w' => e = .returned (.bool true) ∧ w = w' from by
    have h := same_any A1 A2 (cutF k b) (cutF k b) c1 c2 _ _ w h1 h2
    rw [decide_eq_true rfl, cutF_length] at h
    exact h)
  have S3 := Lib.hid (fun (F : Bool) w (h : Below W.heap.size W w) => show Calls Tryd.prog 15 #[.agg #[.bool i, .slice A n c, .bool F], .agg #[.bool i, .slice A n c, .bool F]] w fun e w' => e = .returned (.bool true) ∧ Below w.heap.size w w' from by
    have h := rsame_any i F i F A A l l c c w hl20 hl20 (RT.out w h) (RT.out w h)
    rw [show (i == i && F == F && decide (l = l)) = true by simp, ← HN.out] at h
    exact h)
  obtain ⟨H1, hH1⟩ : ∃ F, F = decide ((k, b) ∈ l) := ⟨_, rfl⟩
  have D1 := Lib.hid (fun w (h : Below W.heap.size W w) => show Calls Tryd.prog 17 #[.agg #[.bool i, .slice A n c, .bool f], .slice K kn kc, .slice B bn bc] w fun e w' => e = .returned (.bool H1) ∧ Below w.heap.size w w' from by
    rw [HN.out, HKN.out, HBN.out, hH1]
    exact had_any i f A l c K B k b kc bc w hl20 HKC.out HKM.out HBC.out HBM.out (RT.out w h) (RK.out w h) (RB.out w h))
  have D2 := Lib.hid (fun w (h : Below W.heap.size W w) => show Calls Tryd.prog 18 #[.agg #[.bool i, .slice A n c, .bool f], .slice K kn kc, .slice B bn bc] w fun e w' => e = .returned (.bool H1) ∧ Below w.heap.size w w' from by
    rw [HN.out, HKN.out, HBN.out, hH1]
    exact rhad_any i f A l c K B k b kc bc w hl20 (RT.out w h) (RK.out w h) (RB.out w h))
  obtain ⟨H2, hH2⟩ : ∃ F, F = (i == j && f == g && decide (l = m)) := ⟨_, rfl⟩
  have D3 := Lib.hid (fun w (h : Below W.heap.size W w) => show Calls Tryd.prog 19 #[.agg #[.bool i, .slice A n c, .bool f], .agg #[.bool j, .slice C o d, .bool g]] w fun e w' => e = .returned (.bool H2) ∧ Below w.heap.size w w' from by
    rw [HN.out, HO.out, hH2]
    exact psame_any i f j g A C l m c d w hl20 hm20 (RT.out w h) (RU.out w h))
  have D4 := Lib.hid (fun w (h : Below W.heap.size W w) => show Calls Tryd.prog 15 #[.agg #[.bool i, .slice A n c, .bool f], .agg #[.bool j, .slice C o d, .bool g]] w fun e w' => e = .returned (.bool H2) ∧ Below w.heap.size w w' from by
    rw [HN.out, HO.out, hH2]
    exact rsame_any i f j g A C l m c d w hl20 hm20 (RT.out w h) (RU.out w h))
  have E1 := Lib.hid (fun w => show Calls Tryd.prog 15 #[.agg #[.bool i, .slice none 0 0, .bool false], .agg #[.bool i, .slice none 0 0, .bool false]] w fun e w' => e = .returned (.bool true) ∧ Below w.heap.size w w' from by
    have h := rsame_any i false i false none none [] [] 0 0 w (by simp) (by simp) Tab.nil Tab.nil
    rw [show (i == i && false == false && decide (([] : List Pr) = [])) = true by simp] at h
    exact h)
  clear hH1 hH2 hfew hfew2 hl20 hm20 hk60 hb60 ht60 HR HR2 hl1 hN1 CF1 CF2
  generalize tabF l k b = L1 at *
  generalize cutF k b = U at *
  clear HO HKN HBN HTN HKC HBC HTC HCC HKM HBM HCM
  obtain ⟨V0, hV0⟩ : ∃ x, x = w3 := ⟨_, rfl⟩
  obtain ⟨g0, hg0⟩ : ∃ x, x = W.heap.size + 1 := ⟨_, rfl⟩
  obtain ⟨go, hgo⟩ : ∃ x, x = W.heap.size + 1 + 1 := ⟨_, rfl⟩
  rw [← hgo, ← hg0, ← hV0]
  rw [← hV0] at P3 O3 BW
  rw [← hg0] at P3
  rw [← hgo] at O3
  clear hV0 hg0 hgo
  obtain ⟨x0, x1, x2⟩ := cells3 P3.out
  go_wp2_with fail
  clear x0 x1 x2
  with_reducible refine (CT.out _ BW.out).mono ?_
  rintro e w1 ⟨⟨n1, A1, c1, T1, tc1, rfl, hn1, h11, h12, h13, h14, h15, h16⟩, hb⟩
  obtain rfl : n1 = N1 := hn1.trans HN1.out.symm
  clear hn1
  obtain ⟨g1, hg1⟩ : ∃ g, g = w1.heap.size := ⟨_, rfl⟩
  obtain ⟨V1, hV1⟩ : ∃ V, V = w1.alloc (.cells (pcs i A1 n1 c1 f) 24) := ⟨_, rfl⟩
  have p1 := heap_alloc_new w1 (.cells (pcs i A1 n1 c1 f) 24)
  have b0 := (Below.refl w1.heap.size w1).alloc (Nat.le_refl _) (.cells (pcs i A1 n1 c1 f) 24)
  have b1 := bel_call hb b0 hb.size
  rw [← hV1] at p1 b0 b1
  rw [← hg1] at p1
  have nP3 := Lib.hid (old_below P3.out b1 (Nat.le_refl _))
  have nO3 := Lib.hid (old_below O3.out b1 (Nat.le_refl _))
  have nBW := Lib.hid (bel_call BW.out b1 BW.out.size)
  have t1 := (h15.below b0 (Nat.le_refl _)).more b0.size
  have u1 := (h16.below b0 (Nat.le_refl _)).more b0.size
  have RT1 := Lib.hid (fun w (h : Below V1.heap.size V1 w) => (t1.below h (Nat.le_refl _)).more h.size)
  have RX1 := Lib.hid (fun w (h : Below V1.heap.size V1 w) => (u1.below h (Nat.le_refl _)).more h.size)
  clear t1 u1 h15 h16 h11 h12 h13 h14
  clear P3 O3 BW hb b0 b1
  have P3 := nP3
  have O3 := nO3
  have BW := nBW
  have G1 := Lib.hid p1
  have HV1 := Lib.hid hV1
  have HG1 := Lib.hid hg1
  have HZ1 := Lib.hid (show V1.heap.size = w1.heap.size + 1 by rw [hV1, World.size_alloc])
  clear nP3 nO3 nBW p1 hV1 hg1
  have B1 := Lib.hid (Below.refl V1.heap.size V1)
  obtain ⟨x0, x1, x2⟩ := cells3 P3.out
  rw [HV1.out] at x0 x1 x2
  go_wp2_with fail
  rw [← HV1.out]
  (try rw [← HZ1.out])
  (try rw [← HG1.out])
  clear HV1
  clear x0 x1 x2
  with_reducible refine (CT2.out _ BW.out).mono ?_
  rintro e w2 ⟨⟨n2, A2, c2, T2, tc2, rfl, hn2, h11, h12, h13, h14, h15, h16⟩, hb⟩
  obtain rfl : n2 = n1 := hn2.trans HN1.out.symm
  clear hn2
  obtain ⟨g2, hg2⟩ : ∃ g, g = w2.heap.size := ⟨_, rfl⟩
  obtain ⟨V2, hV2⟩ : ∃ V, V = w2.alloc (.cells (pcs i A2 n2 c2 f) 24) := ⟨_, rfl⟩
  have p1 := heap_alloc_new w2 (.cells (pcs i A2 n2 c2 f) 24)
  have b0 := (Below.refl w2.heap.size w2).alloc (Nat.le_refl _) (.cells (pcs i A2 n2 c2 f) 24)
  have b1 := bel_call hb b0 hb.size
  rw [← hV2] at p1 b0 b1
  rw [← hg2] at p1
  have nP3 := Lib.hid (old_below P3.out b1 (Nat.le_refl _))
  have nO3 := Lib.hid (old_below O3.out b1 (Nat.le_refl _))
  have nG1 := Lib.hid (old_below G1.out b1 (Nat.le_refl _))
  have nBW := Lib.hid (bel_call BW.out b1 BW.out.size)
  have nB1 := Lib.hid (bel_call B1.out b1 B1.out.size)
  have t1 := (h15.below b0 (Nat.le_refl _)).more b0.size
  have u1 := (h16.below b0 (Nat.le_refl _)).more b0.size
  have RT2 := Lib.hid (fun w (h : Below V2.heap.size V2 w) => (t1.below h (Nat.le_refl _)).more h.size)
  have RX2 := Lib.hid (fun w (h : Below V2.heap.size V2 w) => (u1.below h (Nat.le_refl _)).more h.size)
  clear t1 u1 h15 h16 h11 h12 h13 h14
  clear P3 O3 G1 BW B1 hb b0 b1
  have P3 := nP3
  have O3 := nO3
  have G1 := nG1
  have BW := nBW
  have B1 := nB1
  have G2 := Lib.hid p1
  have HV2 := Lib.hid hV2
  have HG2 := Lib.hid hg2
  have HZ2 := Lib.hid (show V2.heap.size = w2.heap.size + 1 by rw [hV2, World.size_alloc])
  clear nP3 nO3 nG1 nBW nB1 p1 hV2 hg2
  have B2 := Lib.hid (Below.refl V2.heap.size V2)
  obtain ⟨x0, x1, x2⟩ := cells3 P3.out
  rw [HV2.out] at x0 x1 x2
  go_wp2_with fail
  rw [← HV2.out]
  (try rw [← HZ2.out])
  (try rw [← HG2.out])
  clear HV2
  clear x0 x1 x2
  with_reducible refine (CC1.out _ BW.out).mono ?_
  rintro e w3 ⟨rfl, hb⟩
  obtain ⟨g3, hg3⟩ : ∃ g, g = w3.heap.size := ⟨_, rfl⟩
  obtain ⟨V3, hV3⟩ : ∃ V, V = w3.alloc (.cells (pcs i A n c F3) 24) := ⟨_, rfl⟩
  have p1 := heap_alloc_new w3 (.cells (pcs i A n c F3) 24)
  have b0 := (Below.refl w3.heap.size w3).alloc (Nat.le_refl _) (.cells (pcs i A n c F3) 24)
  have b1 := bel_call hb b0 hb.size
  rw [← hV3] at p1 b0 b1
  rw [← hg3] at p1
  have nP3 := Lib.hid (old_below P3.out b1 (Nat.le_refl _))
  have nO3 := Lib.hid (old_below O3.out b1 (Nat.le_refl _))
  have nG1 := Lib.hid (old_below G1.out b1 (Nat.le_refl _))
  have nG2 := Lib.hid (old_below G2.out b1 (Nat.le_refl _))
  have nBW := Lib.hid (bel_call BW.out b1 BW.out.size)
  have nB1 := Lib.hid (bel_call B1.out b1 B1.out.size)
  have nB2 := Lib.hid (bel_call B2.out b1 B2.out.size)
  clear P3 O3 G1 G2 BW B1 B2 hb b0 b1
  have P3 := nP3
  have O3 := nO3
  have G1 := nG1
  have G2 := nG2
  have BW := nBW
  have B1 := nB1
  have B2 := nB2
  have G3 := Lib.hid p1
  have HV3 := Lib.hid hV3
  have HG3 := Lib.hid hg3
  have HZ3 := Lib.hid (show V3.heap.size = w3.heap.size + 1 by rw [hV3, World.size_alloc])
  clear nP3 nO3 nG1 nG2 nBW nB1 nB2 p1 hV3 hg3
  obtain ⟨x0, x1, x2⟩ := cells3 P3.out
  rw [HV3.out] at x0 x1 x2
  go_wp2_with fail
  rw [← HV3.out]
  (try rw [← HZ3.out])
  (try rw [← HG3.out])
  clear HV3
  clear x0 x1 x2
  with_reducible refine (CC2.out _ BW.out).mono ?_
  rintro e w4 ⟨rfl, hb⟩
  obtain ⟨g4, hg4⟩ : ∃ g, g = w4.heap.size := ⟨_, rfl⟩
  obtain ⟨V4, hV4⟩ : ∃ V, V = w4.alloc (.cells (pcs i A n c F3) 24) := ⟨_, rfl⟩
  have p1 := heap_alloc_new w4 (.cells (pcs i A n c F3) 24)
  have b0 := (Below.refl w4.heap.size w4).alloc (Nat.le_refl _) (.cells (pcs i A n c F3) 24)
  have b1 := bel_call hb b0 hb.size
  rw [← hV4] at p1 b0 b1
  rw [← hg4] at p1
  have nP3 := Lib.hid (old_below P3.out b1 (Nat.le_refl _))
  have nO3 := Lib.hid (old_below O3.out b1 (Nat.le_refl _))
  have nG1 := Lib.hid (old_below G1.out b1 (Nat.le_refl _))
  have nG2 := Lib.hid (old_below G2.out b1 (Nat.le_refl _))
  have nG3 := Lib.hid (old_below G3.out b1 (Nat.le_refl _))
  have nBW := Lib.hid (bel_call BW.out b1 BW.out.size)
  have nB1 := Lib.hid (bel_call B1.out b1 B1.out.size)
  have nB2 := Lib.hid (bel_call B2.out b1 B2.out.size)
  clear P3 O3 G1 G2 G3 BW B1 B2 hb b0 b1
  have P3 := nP3
  have O3 := nO3
  have G1 := nG1
  have G2 := nG2
  have G3 := nG3
  have BW := nBW
  have B1 := nB1
  have B2 := nB2
  have G4 := Lib.hid p1
  have HV4 := Lib.hid hV4
  have HG4 := Lib.hid hg4
  have HZ4 := Lib.hid (show V4.heap.size = w4.heap.size + 1 by rw [hV4, World.size_alloc])
  clear nP3 nO3 nG1 nG2 nG3 nBW nB1 nB2 p1 hV4 hg4
  obtain ⟨x0, x1, x2⟩ := cells3 P3.out
  rw [HV4.out] at x0 x1 x2
  go_wp2_with fail
  rw [← HV4.out]
  (try rw [← HZ4.out])
  (try rw [← HG4.out])
  clear HV4
  clear x0 x1 x2
  with_reducible refine (CC3.out _ _ _ (RX2.out _ B2.out) BW.out).mono ?_
  rintro e w5 ⟨rfl, hb⟩
  obtain ⟨g5, hg5⟩ : ∃ g, g = w5.heap.size := ⟨_, rfl⟩
  obtain ⟨V5, hV5⟩ : ∃ V, V = w5.alloc (.cells (pcs i A n c F4) 24) := ⟨_, rfl⟩
  have p1 := heap_alloc_new w5 (.cells (pcs i A n c F4) 24)
  have b0 := (Below.refl w5.heap.size w5).alloc (Nat.le_refl _) (.cells (pcs i A n c F4) 24)
  have b1 := bel_call hb b0 hb.size
  rw [← hV5] at p1 b0 b1
  rw [← hg5] at p1
  have nP3 := Lib.hid (old_below P3.out b1 (Nat.le_refl _))
  have nO3 := Lib.hid (old_below O3.out b1 (Nat.le_refl _))
  have nG1 := Lib.hid (old_below G1.out b1 (Nat.le_refl _))
  have nG2 := Lib.hid (old_below G2.out b1 (Nat.le_refl _))
  have nG3 := Lib.hid (old_below G3.out b1 (Nat.le_refl _))
  have nG4 := Lib.hid (old_below G4.out b1 (Nat.le_refl _))
  have nBW := Lib.hid (bel_call BW.out b1 BW.out.size)
  have nB1 := Lib.hid (bel_call B1.out b1 B1.out.size)
  have nB2 := Lib.hid (bel_call B2.out b1 B2.out.size)
  clear P3 O3 G1 G2 G3 G4 BW B1 B2 hb b0 b1
  have P3 := nP3
  have O3 := nO3
  have G1 := nG1
  have G2 := nG2
  have G3 := nG3
  have G4 := nG4
  have BW := nBW
  have B1 := nB1
  have B2 := nB2
  have G5 := Lib.hid p1
  have HV5 := Lib.hid hV5
  have HG5 := Lib.hid hg5
  have HZ5 := Lib.hid (show V5.heap.size = w5.heap.size + 1 by rw [hV5, World.size_alloc])
  clear nP3 nO3 nG1 nG2 nG3 nG4 nBW nB1 nB2 p1 hV5 hg5
  obtain ⟨x0, x1, x2⟩ := cells3 P3.out
  rw [HV5.out] at x0 x1 x2
  go_wp2_with fail
  rw [← HV5.out]
  (try rw [← HZ5.out])
  (try rw [← HG5.out])
  clear HV5
  clear x0 x1 x2
  with_reducible refine (CC4.out _ _ _ (RX2.out _ B2.out) BW.out).mono ?_
  rintro e w6 ⟨rfl, hb⟩
  obtain ⟨g6, hg6⟩ : ∃ g, g = w6.heap.size := ⟨_, rfl⟩
  obtain ⟨V6, hV6⟩ : ∃ V, V = w6.alloc (.cells (pcs i A n c F4) 24) := ⟨_, rfl⟩
  have p1 := heap_alloc_new w6 (.cells (pcs i A n c F4) 24)
  have b0 := (Below.refl w6.heap.size w6).alloc (Nat.le_refl _) (.cells (pcs i A n c F4) 24)
  have b1 := bel_call hb b0 hb.size
  rw [← hV6] at p1 b0 b1
  rw [← hg6] at p1
  have nP3 := Lib.hid (old_below P3.out b1 (Nat.le_refl _))
  have nO3 := Lib.hid (old_below O3.out b1 (Nat.le_refl _))
  have nG1 := Lib.hid (old_below G1.out b1 (Nat.le_refl _))
  have nG2 := Lib.hid (old_below G2.out b1 (Nat.le_refl _))
  have nG3 := Lib.hid (old_below G3.out b1 (Nat.le_refl _))
  have nG4 := Lib.hid (old_below G4.out b1 (Nat.le_refl _))
  have nG5 := Lib.hid (old_below G5.out b1 (Nat.le_refl _))
  have nBW := Lib.hid (bel_call BW.out b1 BW.out.size)
  have nB1 := Lib.hid (bel_call B1.out b1 B1.out.size)
  have nB2 := Lib.hid (bel_call B2.out b1 B2.out.size)
  clear P3 O3 G1 G2 G3 G4 G5 BW B1 B2 hb b0 b1
  have P3 := nP3
  have O3 := nO3
  have G1 := nG1
  have G2 := nG2
  have G3 := nG3
  have G4 := nG4
  have G5 := nG5
  have BW := nBW
  have B1 := nB1
  have B2 := nB2
  have G6 := Lib.hid p1
  have HV6 := Lib.hid hV6
  have HG6 := Lib.hid hg6
  have HZ6 := Lib.hid (show V6.heap.size = w6.heap.size + 1 by rw [hV6, World.size_alloc])
  clear nP3 nO3 nG1 nG2 nG3 nG4 nG5 nBW nB1 nB2 p1 hV6 hg6
  go_wp2_with fail
  rw [← HV6.out]
  (try rw [← HZ6.out])
  (try rw [← HG6.out])
  clear HV6
  have BB0 := Lib.hid ((Below.refl V6.heap.size V6).drew)
  have F0 := Lib.hid (fun w (h : Below V6.heap.size V6 w) => bel_call BW.out h BW.out.size)
  have F1 := Lib.hid (fun w (h : Below V6.heap.size V6 w) => bel_call B1.out h B1.out.size)
  have F2 := Lib.hid (fun w (h : Below V6.heap.size V6 w) => bel_call B2.out h B2.out.size)
  have KEEP := Lib.hid (show ∀ w', Below V6.heap.size V6 w' → (Below V6.heap.size V6 w' ∧ w'.cell? ⟨g0, 0, none⟩ = some (.bool i) ∧ w'.cell? ⟨g0, 1, none⟩ = some (.slice A n c) ∧ w'.cell? ⟨g0, 2, none⟩ = some (.bool f) ∧ w'.cell? ⟨go, 0, none⟩ = some (.bool j) ∧ w'.cell? ⟨go, 1, none⟩ = some (.slice C o d) ∧ w'.cell? ⟨go, 2, none⟩ = some (.bool g) ∧ w'.cell? ⟨g1, 0, none⟩ = some (.bool i) ∧ w'.cell? ⟨g1, 1, none⟩ = some (.slice A1 n2 c1) ∧ w'.cell? ⟨g1, 2, none⟩ = some (.bool f) ∧ w'.cell? ⟨g2, 0, none⟩ = some (.bool i) ∧ w'.cell? ⟨g2, 1, none⟩ = some (.slice A2 n2 c2) ∧ w'.cell? ⟨g2, 2, none⟩ = some (.bool f) ∧ w'.cell? ⟨g3, 0, none⟩ = some (.bool i) ∧ w'.cell? ⟨g3, 1, none⟩ = some (.slice A n c) ∧ w'.cell? ⟨g3, 2, none⟩ = some (.bool F3) ∧ w'.cell? ⟨g4, 0, none⟩ = some (.bool i) ∧ w'.cell? ⟨g4, 1, none⟩ = some (.slice A n c) ∧ w'.cell? ⟨g4, 2, none⟩ = some (.bool F3) ∧ w'.cell? ⟨g5, 0, none⟩ = some (.bool i) ∧ w'.cell? ⟨g5, 1, none⟩ = some (.slice A n c) ∧ w'.cell? ⟨g5, 2, none⟩ = some (.bool F4) ∧ w'.cell? ⟨g6, 0, none⟩ = some (.bool i) ∧ w'.cell? ⟨g6, 1, none⟩ = some (.slice A n c) ∧ w'.cell? ⟨g6, 2, none⟩ = some (.bool F4)) from fun w' h => by
    obtain ⟨a00, a01, a02⟩ := cells3 (old_below P3.out h (Nat.le_refl _))
    obtain ⟨a10, a11, a12⟩ := cells3 (old_below O3.out h (Nat.le_refl _))
    obtain ⟨a20, a21, a22⟩ := cells3 (old_below G1.out h (Nat.le_refl _))
    obtain ⟨a30, a31, a32⟩ := cells3 (old_below G2.out h (Nat.le_refl _))
    obtain ⟨a40, a41, a42⟩ := cells3 (old_below G3.out h (Nat.le_refl _))
    obtain ⟨a50, a51, a52⟩ := cells3 (old_below G4.out h (Nat.le_refl _))
    obtain ⟨a60, a61, a62⟩ := cells3 (old_below G5.out h (Nat.le_refl _))
    obtain ⟨a70, a71, a72⟩ := cells3 (old_below G6.out h (Nat.le_refl _))
    exact ⟨h, a00, a01, a02, a10, a11, a12, a20, a21, a22, a30, a31, a32, a40, a41, a42, a50, a51, a52, a60, a61, a62, a70, a71, a72⟩)
  go_region_held3 (fun w' => Below V6.heap.size V6 w' ∧ w'.cell? ⟨g0, 0, none⟩ = some (.bool i) ∧ w'.cell? ⟨g0, 1, none⟩ = some (.slice A n c) ∧ w'.cell? ⟨g0, 2, none⟩ = some (.bool f) ∧ w'.cell? ⟨go, 0, none⟩ = some (.bool j) ∧ w'.cell? ⟨go, 1, none⟩ = some (.slice C o d) ∧ w'.cell? ⟨go, 2, none⟩ = some (.bool g) ∧ w'.cell? ⟨g1, 0, none⟩ = some (.bool i) ∧ w'.cell? ⟨g1, 1, none⟩ = some (.slice A1 n2 c1) ∧ w'.cell? ⟨g1, 2, none⟩ = some (.bool f) ∧ w'.cell? ⟨g2, 0, none⟩ = some (.bool i) ∧ w'.cell? ⟨g2, 1, none⟩ = some (.slice A2 n2 c2) ∧ w'.cell? ⟨g2, 2, none⟩ = some (.bool f) ∧ w'.cell? ⟨g3, 0, none⟩ = some (.bool i) ∧ w'.cell? ⟨g3, 1, none⟩ = some (.slice A n c) ∧ w'.cell? ⟨g3, 2, none⟩ = some (.bool F3) ∧ w'.cell? ⟨g4, 0, none⟩ = some (.bool i) ∧ w'.cell? ⟨g4, 1, none⟩ = some (.slice A n c) ∧ w'.cell? ⟨g4, 2, none⟩ = some (.bool F3) ∧ w'.cell? ⟨g5, 0, none⟩ = some (.bool i) ∧ w'.cell? ⟨g5, 1, none⟩ = some (.slice A n c) ∧ w'.cell? ⟨g5, 2, none⟩ = some (.bool F4) ∧ w'.cell? ⟨g6, 0, none⟩ = some (.bool i) ∧ w'.cell? ⟨g6, 1, none⟩ = some (.slice A n c) ∧ w'.cell? ⟨g6, 2, none⟩ = some (.bool F4))
    (first | with_reducible exact KEEP.out _ BB0.out | with_reducible exact KEEP.out _ BBs1.out | with_reducible exact KEEP.out _ BBs3.out | with_reducible exact KEEP.out _ BBs4.out | with_reducible exact KEEP.out _ BBh1.out | with_reducible exact KEEP.out _ BBh2.out | with_reducible exact KEEP.out _ BBp.out | with_reducible exact KEEP.out _ BBr.out | with_reducible exact KEEP.out _ BBn1.out | with_reducible exact KEEP.out _ BBn2.out | with_reducible exact KEEP.out _ BBe.out)
    (first
    | (go_at_call 15; (with_reducible refine (S1.out _ _ _ _ _ ?_ ?_).mono ?_); (first | with_reducible exact RT1.out _ (F1.out _ BB0.out)); (first | with_reducible exact RT2.out _ (F2.out _ BB0.out)); rintro e ww ⟨rfl, hbb⟩; have BBs1 := Lib.hid (by first | with_reducible exact bel_call BB0.out hbb BB0.out.size); clear hbb)
    | (go_at_call 16; (with_reducible refine (S2.out _ _ _ _ _ ?_ ?_).mono ?_); (first | with_reducible exact RX1.out _ (F1.out _ BBs1.out)); (first | with_reducible exact RX2.out _ (F2.out _ BBs1.out)); rintro e ww ⟨rfl, rfl⟩)
    | (go_at_call 15; (with_reducible refine (S3.out F3 _ ?_).mono ?_); (first | with_reducible exact F0.out _ BBs1.out); rintro e ww ⟨rfl, hbb⟩; have BBs3 := Lib.hid (by first | with_reducible exact bel_call BBs1.out hbb BBs1.out.size); clear hbb)
    | (go_at_call 15; (with_reducible refine (S3.out F4 _ ?_).mono ?_); (first | with_reducible exact F0.out _ BBs3.out); rintro e ww ⟨rfl, hbb⟩; have BBs4 := Lib.hid (by first | with_reducible exact bel_call BBs3.out hbb BBs3.out.size); clear hbb)
    | (go_at_call 17; (with_reducible refine (D1.out _ ?_).mono ?_); (first | with_reducible exact F0.out _ BBh2.out | with_reducible exact F0.out _ BBs4.out); rintro e ww ⟨rfl, hbb⟩; have BBh1 := Lib.hid (by first | with_reducible exact bel_call BBh2.out hbb BBh2.out.size | with_reducible exact bel_call BBs4.out hbb BBs4.out.size); clear hbb)
    | (go_at_call 18; (with_reducible refine (D2.out _ ?_).mono ?_); (first | with_reducible exact F0.out _ BBh1.out | with_reducible exact F0.out _ BBs4.out); rintro e ww ⟨rfl, hbb⟩; have BBh2 := Lib.hid (by first | with_reducible exact bel_call BBh1.out hbb BBh1.out.size | with_reducible exact bel_call BBs4.out hbb BBs4.out.size); clear hbb)
    | (go_at_call 19; (with_reducible refine (D3.out _ ?_).mono ?_); (first | with_reducible exact F0.out _ BBr.out | with_reducible exact F0.out _ BBh1.out | with_reducible exact F0.out _ BBh2.out); rintro e ww ⟨rfl, hbb⟩; have BBp := Lib.hid (by first | with_reducible exact bel_call BBr.out hbb BBr.out.size | with_reducible exact bel_call BBh1.out hbb BBh1.out.size | with_reducible exact bel_call BBh2.out hbb BBh2.out.size); clear hbb)
    | (go_at_call 15; (with_reducible refine (D4.out _ ?_).mono ?_); (first | with_reducible exact F0.out _ BBp.out | with_reducible exact F0.out _ BBh1.out | with_reducible exact F0.out _ BBh2.out); rintro e ww ⟨rfl, hbb⟩; have BBr := Lib.hid (by first | with_reducible exact bel_call BBp.out hbb BBp.out.size | with_reducible exact bel_call BBh1.out hbb BBh1.out.size | with_reducible exact bel_call BBh2.out hbb BBh2.out.size); clear hbb)
    | (go_at_call 20; (with_reducible refine (new4_any _ _).mono ?_); rintro e ww ⟨rfl, hbb⟩; have BBn1 := Lib.hid (by first | with_reducible exact bel_call BBn2.out hbb BBn2.out.size | with_reducible exact bel_call BBp.out hbb BBp.out.size | with_reducible exact bel_call BBr.out hbb BBr.out.size); clear hbb)
    | (go_at_call 21; (with_reducible refine (rnew_any _ _).mono ?_); rintro e ww ⟨rfl, hbb⟩; have BBn2 := Lib.hid (by first | with_reducible exact bel_call BBn1.out hbb BBn1.out.size | with_reducible exact bel_call BBp.out hbb BBp.out.size | with_reducible exact bel_call BBr.out hbb BBr.out.size); clear hbb)
    | (go_at_call 15; (with_reducible refine (E1.out _).mono ?_); rintro e ww ⟨rfl, hbb⟩; have BBe := Lib.hid (by first | with_reducible exact bel_call BBn1.out hbb BBn1.out.size | with_reducible exact bel_call BBn2.out hbb BBn2.out.size); clear hbb))
  all_goals
    go_wp2_with fail
    go_ret
    exact ⟨by simp, F0.out _ BBe.out⟩
end Go.Proofs.YtcfncbbdlbdbnaaDoor
