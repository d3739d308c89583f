
/- RingDoes' walk. -/
import Derived.Test.YtgnccfcdonoegaaJ12
namespace Go.Proofs.Ytgnccfcdonoegaa
open Go.RowKit

set_option maxRecDepth 100000 in
set_option maxHeartbeats 4000000 in
theorem ringDoes_walk (xa : Wg) (a : Rg) (no : Int) (A : Option Addr) (k : List UInt8) (c : Nat) (W : World) (ha64 : Rg64 a) (hn : B64r no) (hra : RingR W xa a) (hk : KeyR W (A, c) k) :
    Calls Try.prog 4 #[.agg (ringC xa a), .int .i64 no, .slice A k.length c] W fun e W' => e = .returned (.bool true) ∧ Below W.heap.size W W' := by
  have RA := Lib.hid hra
  have RK := Lib.hid hk
  clear hra hk
  have HFA := Lib.hid (fun w => few11_any xa a w)
  have HRA := Lib.hid (fun w => right11_any xa a w)
  have H64 := Lib.hid ha64
  have HBN := Lib.hid hn
  clear ha64 hn
  obtain ⟨CC, hCC⟩ : ∃ CC, CC = ringC xa a := ⟨_, rfl⟩
  have HCC := Lib.hid hCC
  rw [← hCC]
  clear hCC
  obtain ⟨m, hm⟩ : ∃ m, m = k.length := ⟨_, rfl⟩
  rw [← hm]
  have HM := Lib.hid hm
  clear hm
  obtain ⟨V0, hV, hb, hg⟩ := bx1 W 26 CC
  have HB := Lib.hid hb
  have G3 := Lib.hid hg
  have HV := Lib.hid hV
  have nRA := Lib.hid (RA.out.go hb)
  clear RA
  have RA := nRA
  clear nRA
  have nRK := Lib.hid (RK.out.go hb)
  clear RK
  have RK := nRK
  clear nRK
  clear hb hg hV
  go_enter Try.func4, Try.ntmps4
  go_upto_region 1 with (fail)
  rw [← HV.out]
  clear HV
  rw [HCC.out] at G3
  go_wp2_with fail
  refine (shown11_any _).mono ?_
  rintro e w1 ⟨rfl, hb⟩
  have nHB := Lib.hid (belG HB.out hb HB.out.size)
  have nRA := Lib.hid (RA.out.go hb)
  have nRK := Lib.hid (RK.out.go hb)
  have nG3 := Lib.hid (Bx.go G3.out hb)
  clear hb
  clear HB RA RK G3
  have HB := nHB
  have RA := nRA
  have RK := nRK
  have G3 := nG3
  clear nHB nRA nRK nG3
  go_upto_region 2 with fail
  have NU := Lib.hid (show ∀ n : Int, (n != n) = false ∧ (n == n) = true from fun n => ⟨by simp, by simp⟩)
  by_cases hfa : fewR a
  case neg =>
    rw [decide_eq_false hfa] at HFA
    go_wp2_with (refine loadX (.tmp 3) W.heap.size (ringC xa a) tyRing rfl G3.out rfl rfl rfl ?_)
    refine (HFA.out _).mono ?_
    rintro e w2 ⟨rfl, hb⟩
    have nHB := Lib.hid (belG HB.out hb HB.out.size)
    have nRA := Lib.hid (RA.out.go hb)
    have nRK := Lib.hid (RK.out.go hb)
    have nG3 := Lib.hid (Bx.go G3.out hb)
    clear hb
    clear HB RA RK G3
    have HB := nHB
    have RA := nRA
    have RK := nRK
    have G3 := nG3
    clear nHB nRA nRK nG3
    go_wp2_with fail
    go_ret
    exact ⟨rfl, HB.out⟩
  rw [decide_eq_true hfa] at HFA
  by_cases hR : RightR a
  case neg =>
    rw [decide_eq_false hR] at HRA
    go_wp2_with (refine loadX (.tmp 3) W.heap.size (ringC xa a) tyRing rfl G3.out rfl rfl rfl ?_)
    refine (HFA.out _).mono ?_
    rintro e w2 ⟨rfl, hb⟩
    have nHB := Lib.hid (belG HB.out hb HB.out.size)
    have nRA := Lib.hid (RA.out.go hb)
    have nRK := Lib.hid (RK.out.go hb)
    have nG3 := Lib.hid (Bx.go G3.out hb)
    clear hb
    clear HB RA RK G3
    have HB := nHB
    have RA := nRA
    have RK := nRK
    have G3 := nG3
    clear nHB nRA nRK nG3
    go_wp2_with (refine loadX (.tmp 3) W.heap.size (ringC xa a) tyRing rfl G3.out rfl rfl rfl ?_)
    refine (HRA.out _).mono ?_
    rintro e w3 ⟨rfl, hb⟩
    have nHB := Lib.hid (belG HB.out hb HB.out.size)
    have nRA := Lib.hid (RA.out.go hb)
    have nRK := Lib.hid (RK.out.go hb)
    have nG3 := Lib.hid (Bx.go G3.out hb)
    clear hb
    clear HB RA RK G3
    have HB := nHB
    have RA := nRA
    have RK := nRK
    have G3 := nG3
    clear nHB nRA nRK nG3
    go_wp2_with fail
    go_ret
    exact ⟨rfl, HB.out⟩
  rw [decide_eq_true hR] at HRA
  by_cases hmk : 100 < m
  case pos =>
    have hmi : (100 : Int) < (m : Int) := by omega
    go_wp2_with (refine loadX (.tmp 3) W.heap.size (ringC xa a) tyRing rfl G3.out rfl rfl rfl ?_)
    refine (HFA.out _).mono ?_
    rintro e w2 ⟨rfl, hb⟩
    have nHB := Lib.hid (belG HB.out hb HB.out.size)
    have nRA := Lib.hid (RA.out.go hb)
    have nRK := Lib.hid (RK.out.go hb)
    have nG3 := Lib.hid (Bx.go G3.out hb)
    clear hb
    clear HB RA RK G3
    have HB := nHB
    have RA := nRA
    have RK := nRK
    have G3 := nG3
    clear nHB nRA nRK nG3
    go_wp2_with (refine loadX (.tmp 3) W.heap.size (ringC xa a) tyRing rfl G3.out rfl rfl rfl ?_)
    refine (HRA.out _).mono ?_
    rintro e w3 ⟨rfl, hb⟩
    have nHB := Lib.hid (belG HB.out hb HB.out.size)
    have nRA := Lib.hid (RA.out.go hb)
    have nRK := Lib.hid (RK.out.go hb)
    have nG3 := Lib.hid (Bx.go G3.out hb)
    clear hb
    clear HB RA RK G3
    have HB := nHB
    have RA := nRA
    have RK := nRK
    have G3 := nG3
    clear nHB nRA nRK nG3
    go_wp2_with fail
    go_ret
    exact ⟨rfl, HB.out⟩
  have hmi : ¬ (100 : Int) < (m : Int) := by omega
  have CN := Lib.hid (fun w (h : KeyR w (A, c) k) (h2 : RingR w xa a) => (show Calls Try.prog 21 #[.agg (ringC xa a), .int .i64 no, .slice A m c] w fun e W' => AnsRg W' e (offerR a no k).1 (offerR a no k).2 ∧ Below w.heap.size w W' from by rw [HM.out]; exact rOffer_any xa a no A k c w hR H64.out h2 HBN.out (by have h1 := HM.out; omega) h))
  have CM := Lib.hid (fun w (h : KeyR w (A, c) k) (h2 : RingR w xa a) => (show Calls Try.prog 22 #[.agg (ringC xa a), .int .i64 no, .slice A m c] w fun e W' => AnsRg W' e (offerR a no k).1 (offerR a no k).2 ∧ Below w.heap.size w W' from by rw [HM.out]; exact offer11_any xa a no A k c w h2 h))
  have CT := Lib.hid (fun w (h : RingR w xa a) => rTurn_any xa a w hR H64.out h)
  have CU := Lib.hid (fun w (h : RingR w xa a) => turn11_any xa a w h)
  have CW := Lib.hid (fun w (h : RingR w xa a) => rWithdraw_any xa a w hR H64.out h)
  have CX := Lib.hid (fun w (h : RingR w xa a) => withdraw11_any xa a w h)
  have CY := Lib.hid (fun w (h : RingR w xa a) => rTick_any xa a w hR H64.out h)
  have CZ := Lib.hid (fun w (h : RingR w xa a) => tick11_any xa a w h H64.out.2.2.2.1)
  have CS := Lib.hid (fun (x y : Wg) (r : Rg) w (h : RingR w x r) (h2 : RingR w y r) => (show Calls Try.prog 13 #[.agg (ringC x r), .agg (ringC y r)] w fun e W' => e = .returned (.bool true) ∧ Below w.heap.size w W' from by have h3 := same11_any x y r r w h h2; rw [decide_eq_true rfl] at h3; exact h3))
  unfold AnsRg at CN CM CT CU
  unfold AnsR1 at CW CX CY CZ
  generalize offerR a no k = O at *
  generalize turnR a = U at *
  generalize withdrawR a = D at *
  generalize tickR a = J at *
  obtain ⟨O, oc⟩ := O
  obtain ⟨U, uc⟩ := U
  simp only at CN CM CT CU
  have hoc := (NU.out oc).2
  have huc := (NU.out uc).2
  go_wp2_with (refine loadX (.tmp 3) W.heap.size (ringC xa a) tyRing rfl G3.out rfl rfl rfl ?_)
  refine (HFA.out _).mono ?_
  rintro e w2 ⟨rfl, hb⟩
  have nHB := Lib.hid (belG HB.out hb HB.out.size)
  have nRA := Lib.hid (RA.out.go hb)
  have nRK := Lib.hid (RK.out.go hb)
  have nG3 := Lib.hid (Bx.go G3.out hb)
  clear hb
  clear HB RA RK G3
  have HB := nHB
  have RA := nRA
  have RK := nRK
  have G3 := nG3
  clear nHB nRA nRK nG3
  go_wp2_with (refine loadX (.tmp 3) W.heap.size (ringC xa a) tyRing rfl G3.out rfl rfl rfl ?_)
  refine (HRA.out _).mono ?_
  rintro e w3 ⟨rfl, hb⟩
  have nHB := Lib.hid (belG HB.out hb HB.out.size)
  have nRA := Lib.hid (RA.out.go hb)
  have nRK := Lib.hid (RK.out.go hb)
  have nG3 := Lib.hid (Bx.go G3.out hb)
  clear hb
  clear HB RA RK G3
  have HB := nHB
  have RA := nRA
  have RK := nRK
  have G3 := nG3
  clear nHB nRA nRK nG3
  go_wp2_with (refine loadX (.tmp 3) W.heap.size (ringC xa a) tyRing rfl G3.out rfl rfl rfl ?_)
  refine (CN.out _ RK.out RA.out).mono ?_
  rintro e w4 ⟨⟨x8, rfl, hr⟩, hb⟩
  have nHB := Lib.hid (belG HB.out hb HB.out.size)
  have nRA := Lib.hid (RA.out.go hb)
  have nRK := Lib.hid (RK.out.go hb)
  have nG3 := Lib.hid (Bx.go G3.out hb)
  clear hb
  clear HB RA RK G3
  have HB := nHB
  have RA := nRA
  have RK := nRK
  have G3 := nG3
  clear nHB nRA nRK nG3
  have RG8 := Lib.hid hr
  clear hr
  have LB := Lib.hid HB.out.size
  have LTG3 := Lib.hid (show W.heap.size < w4.heap.size from Bx.lt G3.out)
  obtain ⟨V4, hV4⟩ : ∃ V, V = w4.alloc (.cells (ringC x8 O) 26) := ⟨_, rfl⟩
  have ha := (Below.refl w4.heap.size w4).alloc (Nat.le_refl _) (.cells (ringC x8 O) 26)
  have hg := heap_alloc_new w4 (.cells (ringC x8 O) 26)
  have nHB := Lib.hid (HB.out.alloc HB.out.size (.cells (ringC x8 O) 26))
  rw [← hV4] at ha hg nHB
  have nRA := Lib.hid (RA.out.go ha)
  have nRK := Lib.hid (RK.out.go ha)
  have nRG8 := Lib.hid (RG8.out.go ha)
  have nG3 := Lib.hid (Bx.go G3.out ha)
  obtain ⟨g8, hg8⟩ : ∃ g, g = w4.heap.size := ⟨_, rfl⟩
  rw [← hg8] at hg
  have HXG8 := Lib.hid hg8
  have G8 := Lib.hid hg
  have HV := Lib.hid hV4
  clear ha hg hV4 hg8
  clear HB RA RK RG8 G3
  have HB := nHB
  have RA := nRA
  have RK := nRK
  have RG8 := nRG8
  have G3 := nG3
  clear nHB nRA nRK nRG8 nG3
  have LEG8 := Lib.hid (show W.heap.size ≤ g8 from by rw [HXG8.out]; exact LB.out)
  have NEG3G8 := Lib.hid (show W.heap.size ≠ g8 from by have h1 := LTG3.out; rw [HXG8.out]; omega)
  have NEG8G3 := Lib.hid (NEG3G8.out.symm)
  clear LB LTG3
  go_upto_region 5 with (refine storeX (.tmp 8) (.tmp 36) _ (ringC x8 O) _ tyRing rfl (ringC_one _ _) (heap_alloc_new _ _) rfl rfl rfl rfl rfl ?_; rw [setRowG_fold])
  rw [← HV.out]
  (try rw [← HXG8.out])
  clear HV HXG8
  go_wp2_with (refine loadX (.tmp 3) W.heap.size (ringC xa a) tyRing rfl G3.out rfl rfl rfl ?_)
  refine (CM.out _ RK.out RA.out).mono ?_
  rintro e w5 ⟨⟨x10, rfl, hr⟩, hb⟩
  have nHB := Lib.hid (belG HB.out hb HB.out.size)
  have nRA := Lib.hid (RA.out.go hb)
  have nRK := Lib.hid (RK.out.go hb)
  have nRG8 := Lib.hid (RG8.out.go hb)
  have nG3 := Lib.hid (Bx.go G3.out hb)
  have nG8 := Lib.hid (Bx.go G8.out hb)
  clear hb
  clear HB RA RK RG8 G3 G8
  have HB := nHB
  have RA := nRA
  have RK := nRK
  have RG8 := nRG8
  have G3 := nG3
  have G8 := nG8
  clear nHB nRA nRK nRG8 nG3 nG8
  have RG10 := Lib.hid hr
  clear hr
  have LB := Lib.hid HB.out.size
  have LTG3 := Lib.hid (show W.heap.size < w5.heap.size from Bx.lt G3.out)
  have LTG8 := Lib.hid (show g8 < w5.heap.size from Bx.lt G8.out)
  obtain ⟨V5, hV5⟩ : ∃ V, V = w5.alloc (.cells (ringC x10 O) 26) := ⟨_, rfl⟩
  have ha := (Below.refl w5.heap.size w5).alloc (Nat.le_refl _) (.cells (ringC x10 O) 26)
  have hg := heap_alloc_new w5 (.cells (ringC x10 O) 26)
  have nHB := Lib.hid (HB.out.alloc HB.out.size (.cells (ringC x10 O) 26))
  rw [← hV5] at ha hg nHB
  have nRA := Lib.hid (RA.out.go ha)
  have nRK := Lib.hid (RK.out.go ha)
  have nRG8 := Lib.hid (RG8.out.go ha)
  have nRG10 := Lib.hid (RG10.out.go ha)
  have nG3 := Lib.hid (Bx.go G3.out ha)
  have nG8 := Lib.hid (Bx.go G8.out ha)
  obtain ⟨g10, hg10⟩ : ∃ g, g = w5.heap.size := ⟨_, rfl⟩
  rw [← hg10] at hg
  have HXG10 := Lib.hid hg10
  have G10 := Lib.hid hg
  have HV := Lib.hid hV5
  clear ha hg hV5 hg10
  clear HB RA RK RG8 RG10 G3 G8
  have HB := nHB
  have RA := nRA
  have RK := nRK
  have RG8 := nRG8
  have RG10 := nRG10
  have G3 := nG3
  have G8 := nG8
  clear nHB nRA nRK nRG8 nRG10 nG3 nG8
  have LEG10 := Lib.hid (show W.heap.size ≤ g10 from by rw [HXG10.out]; exact LB.out)
  have NEG3G10 := Lib.hid (show W.heap.size ≠ g10 from by have h1 := LTG3.out; rw [HXG10.out]; omega)
  have NEG10G3 := Lib.hid (NEG3G10.out.symm)
  have NEG8G10 := Lib.hid (show g8 ≠ g10 from by have h1 := LTG8.out; rw [HXG10.out]; omega)
  have NEG10G8 := Lib.hid (NEG8G10.out.symm)
  clear LB LTG3 LTG8
  go_upto_region 6 with (refine storeX (.tmp 10) (.tmp 43) _ (ringC x10 O) _ tyRing rfl (ringC_one _ _) (heap_alloc_new _ _) rfl rfl rfl rfl rfl ?_; rw [setRowG_fold])
  rw [← HV.out]
  (try rw [← HXG10.out])
  clear HV HXG10
  go_wp2_with (refine loadX (.tmp 3) W.heap.size (ringC xa a) tyRing rfl G3.out rfl rfl rfl ?_)
  refine (CT.out _ RA.out).mono ?_
  rintro e w6 ⟨⟨x12, rfl, hr⟩, hb⟩
  have nHB := Lib.hid (belG HB.out hb HB.out.size)
  have nRA := Lib.hid (RA.out.go hb)
  have nRK := Lib.hid (RK.out.go hb)
  have nRG8 := Lib.hid (RG8.out.go hb)
  have nRG10 := Lib.hid (RG10.out.go hb)
  have nG3 := Lib.hid (Bx.go G3.out hb)
  have nG8 := Lib.hid (Bx.go G8.out hb)
  have nG10 := Lib.hid (Bx.go G10.out hb)
  clear hb
  clear HB RA RK RG8 RG10 G3 G8 G10
  have HB := nHB
  have RA := nRA
  have RK := nRK
  have RG8 := nRG8
  have RG10 := nRG10
  have G3 := nG3
  have G8 := nG8
  have G10 := nG10
  clear nHB nRA nRK nRG8 nRG10 nG3 nG8 nG10
  have RG12 := Lib.hid hr
  clear hr
  have LB := Lib.hid HB.out.size
  have LTG3 := Lib.hid (show W.heap.size < w6.heap.size from Bx.lt G3.out)
  have LTG8 := Lib.hid (show g8 < w6.heap.size from Bx.lt G8.out)
  have LTG10 := Lib.hid (show g10 < w6.heap.size from Bx.lt G10.out)
  obtain ⟨V6, hV6⟩ : ∃ V, V = w6.alloc (.cells (ringC x12 U) 26) := ⟨_, rfl⟩
  have ha := (Below.refl w6.heap.size w6).alloc (Nat.le_refl _) (.cells (ringC x12 U) 26)
  have hg := heap_alloc_new w6 (.cells (ringC x12 U) 26)
  have nHB := Lib.hid (HB.out.alloc HB.out.size (.cells (ringC x12 U) 26))
  rw [← hV6] at ha hg nHB
  have nRA := Lib.hid (RA.out.go ha)
  have nRK := Lib.hid (RK.out.go ha)
  have nRG8 := Lib.hid (RG8.out.go ha)
  have nRG10 := Lib.hid (RG10.out.go ha)
  have nRG12 := Lib.hid (RG12.out.go ha)
  have nG3 := Lib.hid (Bx.go G3.out ha)
  have nG8 := Lib.hid (Bx.go G8.out ha)
  have nG10 := Lib.hid (Bx.go G10.out ha)
  obtain ⟨g12, hg12⟩ : ∃ g, g = w6.heap.size := ⟨_, rfl⟩
  rw [← hg12] at hg
  have HXG12 := Lib.hid hg12
  have G12 := Lib.hid hg
  have HV := Lib.hid hV6
  clear ha hg hV6 hg12
  clear HB RA RK RG8 RG10 RG12 G3 G8 G10
  have HB := nHB
  have RA := nRA
  have RK := nRK
  have RG8 := nRG8
  have RG10 := nRG10
  have RG12 := nRG12
  have G3 := nG3
  have G8 := nG8
  have G10 := nG10
  clear nHB nRA nRK nRG8 nRG10 nRG12 nG3 nG8 nG10
  have LEG12 := Lib.hid (show W.heap.size ≤ g12 from by rw [HXG12.out]; exact LB.out)
  have NEG3G12 := Lib.hid (show W.heap.size ≠ g12 from by have h1 := LTG3.out; rw [HXG12.out]; omega)
  have NEG12G3 := Lib.hid (NEG3G12.out.symm)
  have NEG8G12 := Lib.hid (show g8 ≠ g12 from by have h1 := LTG8.out; rw [HXG12.out]; omega)
  have NEG12G8 := Lib.hid (NEG8G12.out.symm)
  have NEG10G12 := Lib.hid (show g10 ≠ g12 from by have h1 := LTG10.out; rw [HXG12.out]; omega)
  have NEG12G10 := Lib.hid (NEG10G12.out.symm)
  clear LB LTG3 LTG8 LTG10
  go_upto_region 7 with (refine storeX (.tmp 12) (.tmp 48) _ (ringC x12 U) _ tyRing rfl (ringC_one _ _) (heap_alloc_new _ _) rfl rfl rfl rfl rfl ?_; rw [setRowG_fold])
  rw [← HV.out]
  (try rw [← HXG12.out])
  clear HV HXG12
  go_wp2_with (refine loadX (.tmp 3) W.heap.size (ringC xa a) tyRing rfl G3.out rfl rfl rfl ?_)
  refine (CU.out _ RA.out).mono ?_
  rintro e w7 ⟨⟨x14, rfl, hr⟩, hb⟩
  have nHB := Lib.hid (belG HB.out hb HB.out.size)
  have nRA := Lib.hid (RA.out.go hb)
  have nRK := Lib.hid (RK.out.go hb)
  have nRG8 := Lib.hid (RG8.out.go hb)
  have nRG10 := Lib.hid (RG10.out.go hb)
  have nRG12 := Lib.hid (RG12.out.go hb)
  have nG3 := Lib.hid (Bx.go G3.out hb)
  have nG8 := Lib.hid (Bx.go G8.out hb)
  have nG10 := Lib.hid (Bx.go G10.out hb)
  have nG12 := Lib.hid (Bx.go G12.out hb)
  clear hb
  clear HB RA RK RG8 RG10 RG12 G3 G8 G10 G12
  have HB := nHB
  have RA := nRA
  have RK := nRK
  have RG8 := nRG8
  have RG10 := nRG10
  have RG12 := nRG12
  have G3 := nG3
  have G8 := nG8
  have G10 := nG10
  have G12 := nG12
  clear nHB nRA nRK nRG8 nRG10 nRG12 nG3 nG8 nG10 nG12
  have RG14 := Lib.hid hr
  clear hr
  have LB := Lib.hid HB.out.size
  have LTG3 := Lib.hid (show W.heap.size < w7.heap.size from Bx.lt G3.out)
  have LTG8 := Lib.hid (show g8 < w7.heap.size from Bx.lt G8.out)
  have LTG10 := Lib.hid (show g10 < w7.heap.size from Bx.lt G10.out)
  have LTG12 := Lib.hid (show g12 < w7.heap.size from Bx.lt G12.out)
  obtain ⟨V7, hV7⟩ : ∃ V, V = w7.alloc (.cells (ringC x14 U) 26) := ⟨_, rfl⟩
  have ha := (Below.refl w7.heap.size w7).alloc (Nat.le_refl _) (.cells (ringC x14 U) 26)
  have hg := heap_alloc_new w7 (.cells (ringC x14 U) 26)
  have nHB := Lib.hid (HB.out.alloc HB.out.size (.cells (ringC x14 U) 26))
  rw [← hV7] at ha hg nHB
  have nRA := Lib.hid (RA.out.go ha)
  have nRK := Lib.hid (RK.out.go ha)
  have nRG8 := Lib.hid (RG8.out.go ha)
  have nRG10 := Lib.hid (RG10.out.go ha)
  have nRG12 := Lib.hid (RG12.out.go ha)
  have nRG14 := Lib.hid (RG14.out.go ha)
  have nG3 := Lib.hid (Bx.go G3.out ha)
  have nG8 := Lib.hid (Bx.go G8.out ha)
  have nG10 := Lib.hid (Bx.go G10.out ha)
  have nG12 := Lib.hid (Bx.go G12.out ha)
  obtain ⟨g14, hg14⟩ : ∃ g, g = w7.heap.size := ⟨_, rfl⟩
  rw [← hg14] at hg
  have HXG14 := Lib.hid hg14
  have G14 := Lib.hid hg
  have HV := Lib.hid hV7
  clear ha hg hV7 hg14
  clear HB RA RK RG8 RG10 RG12 RG14 G3 G8 G10 G12
  have HB := nHB
  have RA := nRA
  have RK := nRK
  have RG8 := nRG8
  have RG10 := nRG10
  have RG12 := nRG12
  have RG14 := nRG14
  have G3 := nG3
  have G8 := nG8
  have G10 := nG10
  have G12 := nG12
  clear nHB nRA nRK nRG8 nRG10 nRG12 nRG14 nG3 nG8 nG10 nG12
  have LEG14 := Lib.hid (show W.heap.size ≤ g14 from by rw [HXG14.out]; exact LB.out)
  have NEG3G14 := Lib.hid (show W.heap.size ≠ g14 from by have h1 := LTG3.out; rw [HXG14.out]; omega)
  have NEG14G3 := Lib.hid (NEG3G14.out.symm)
  have NEG8G14 := Lib.hid (show g8 ≠ g14 from by have h1 := LTG8.out; rw [HXG14.out]; omega)
  have NEG14G8 := Lib.hid (NEG8G14.out.symm)
  have NEG10G14 := Lib.hid (show g10 ≠ g14 from by have h1 := LTG10.out; rw [HXG14.out]; omega)
  have NEG14G10 := Lib.hid (NEG10G14.out.symm)
  have NEG12G14 := Lib.hid (show g12 ≠ g14 from by have h1 := LTG12.out; rw [HXG14.out]; omega)
  have NEG14G12 := Lib.hid (NEG12G14.out.symm)
  clear LB LTG3 LTG8 LTG10 LTG12
  go_upto_region 8 with (refine storeX (.tmp 14) (.tmp 53) _ (ringC x14 U) _ tyRing rfl (ringC_one _ _) (heap_alloc_new _ _) rfl rfl rfl rfl rfl ?_; rw [setRowG_fold])
  rw [← HV.out]
  (try rw [← HXG14.out])
  clear HV HXG14
  have BB0 := Lib.hid ((Below.refl V7.heap.size V7).drew)
  have KEEP := Lib.hid (fun w' (hW : Below V7.heap.size V7 w') => (show Below V7.heap.size V7 w' from hW))
  refine wp_region_noPanic ?_
  refine wp_region_held_drew (S := fun w' => Below V7.heap.size V7 w') (by kernel_rfl) (KEEP.out _ BB0.out) (fun hHeld => ?_)
  obtain ⟨wz0, hwz⟩ : ∃ x, x = V7.drew := ⟨_, rfl⟩
  rw [← hwz] at BB0 hHeld ⊢
  clear hwz
  refine wpAnyH_take (i := 0) (oi := ?_) (v := ?_) ?_ (by kernel_rfl) (by decide +kernel) (by decide +kernel) (fun _ _ _ h => h) ?_ (by assumption) ?_
  rotate_left 2
  focus (simp only [List.getElem?_toArray, List.getElem?_cons_zero] <;> rfl)
  · refine Or.inl ⟨by rfl, ?_⟩
    intro w hSw
    (try dsimp only at hSw)
    go_simp <;> with_reducible rfl
  (try simp only [Act.put, List.setIfInBounds_toArray, List.set_cons_zero, List.set_cons_succ])
  refine wpAnyH_take (i := 1) (oi := ?_) (v := ?_) ?_ (by kernel_rfl) (by decide +kernel) (by decide +kernel) (fun _ _ _ h => h) ?_ (by assumption) ?_
  rotate_left 2
  focus (simp only [List.getElem?_toArray, List.getElem?_cons_succ, List.getElem?_cons_zero] <;> rfl)
  · refine Or.inl ⟨by rfl, ?_⟩
    intro w hSw
    (try dsimp only at hSw)
    go_simp <;> with_reducible rfl
  (try simp only [Act.put, List.setIfInBounds_toArray, List.set_cons_zero, List.set_cons_succ])
  refine wpAnyH_take (i := 2) (oi := ?_) (v := .agg (ringC x8 O)) ?_ (by kernel_rfl) (by decide +kernel) (by decide +kernel) (fun _ _ _ h => h) ?_ (by assumption) ?_
  rotate_left 1
  focus (simp only [List.getElem?_toArray, List.getElem?_cons_succ, List.getElem?_cons_zero] <;> rfl)
  · refine yieldsX (T := 26) ?_ (.tmp 8) ?_ ⟨g8, 0, none⟩ ?_ (ringC x8 O) ?_
    focus rfl
    focus exact rfl
    focus exact rfl
    exact fun w hSw => run_loadX tyRing rfl (Bx.go G8.out hSw)
  (try simp only [Act.put, List.setIfInBounds_toArray, List.set_cons_zero, List.set_cons_succ])
  refine wpAnyH_take (i := 3) (oi := ?_) (v := .agg (ringC x10 O)) ?_ (by kernel_rfl) (by decide +kernel) (by decide +kernel) (fun _ _ _ h => h) ?_ (by assumption) ?_
  rotate_left 1
  focus (simp only [List.getElem?_toArray, List.getElem?_cons_succ, List.getElem?_cons_zero] <;> rfl)
  · refine yieldsX (T := 26) ?_ (.tmp 10) ?_ ⟨g10, 0, none⟩ ?_ (ringC x10 O) ?_
    focus rfl
    focus exact rfl
    focus exact rfl
    exact fun w hSw => run_loadX tyRing rfl (Bx.go G10.out hSw)
  (try simp only [Act.put, List.setIfInBounds_toArray, List.set_cons_zero, List.set_cons_succ])
  refine wpAnyH_ready (rs := [4]) (by decide +kernel) (by simp) ?_
  refine AllReadyH.cons rfl (fun K hK => ?_) AllReadyH.nil
  go_simp
  go_at_call 13
  refine (CS.out x8 x10 O _ (RG8.out.go BB0.out) (RG10.out.go BB0.out)).mono ?_
  rintro e wz1 ⟨rfl, hb⟩
  have BB1 := Lib.hid (belG BB0.out hb BB0.out.size)
  clear hb
  refine hK.out _ _ (KEEP.out _ BB1.out) (fun hHeld => ?_)
  clear hK K
  (try simp only [Act.put, List.setIfInBounds_toArray, List.set_cons_zero, List.set_cons_succ])
  refine wpAnyH_take (i := 5) (oi := ?_) (v := ?_) ?_ (by kernel_rfl) (by decide +kernel) (by decide +kernel) (fun _ _ _ h => h) ?_ (by assumption) ?_
  rotate_left 2
  focus (simp only [List.getElem?_toArray, List.getElem?_cons_succ, List.getElem?_cons_zero] <;> rfl)
  · refine Or.inl ⟨by rfl, ?_⟩
    intro w hSw
    (try dsimp only at hSw)
    go_simp <;> with_reducible rfl
  (try simp only [Act.put, List.setIfInBounds_toArray, List.set_cons_zero, List.set_cons_succ])
  refine wpAnyH_take (i := 6) (oi := ?_) (v := ?_) ?_ (by kernel_rfl) (by decide +kernel) (by decide +kernel) (fun _ _ _ h => h) ?_ (by assumption) ?_
  rotate_left 2
  focus (simp only [List.getElem?_toArray, List.getElem?_cons_succ, List.getElem?_cons_zero] <;> rfl)
  · refine Or.inl ⟨by rfl, ?_⟩
    intro w hSw
    (try dsimp only at hSw)
    go_simp <;> with_reducible rfl
  (try simp only [Act.put, List.setIfInBounds_toArray, List.set_cons_zero, List.set_cons_succ])
  refine wpAnyH_take (i := 7) (oi := ?_) (v := ?_) ?_ (by kernel_rfl) (by decide +kernel) (by decide +kernel) (fun _ _ _ h => h) ?_ (by assumption) ?_
  rotate_left 2
  focus (simp only [List.getElem?_toArray, List.getElem?_cons_succ, List.getElem?_cons_zero] <;> rfl)
  · refine Or.inl ⟨by rfl, ?_⟩
    intro w hSw
    (try dsimp only at hSw)
    go_simp <;> with_reducible rfl
  (try simp only [Act.put, List.setIfInBounds_toArray, List.set_cons_zero, List.set_cons_succ])
  refine wpAnyH_take (i := 8) (oi := ?_) (v := ?_) ?_ (by kernel_rfl) (by decide +kernel) (by decide +kernel) (fun _ _ _ h => h) ?_ (by assumption) ?_
  rotate_left 2
  focus (simp only [List.getElem?_toArray, List.getElem?_cons_succ, List.getElem?_cons_zero] <;> rfl)
  · refine Or.inl ⟨by rfl, ?_⟩
    intro w hSw
    (try dsimp only at hSw)
    go_simp <;> with_reducible rfl
  (try simp only [Act.put, List.setIfInBounds_toArray, List.set_cons_zero, List.set_cons_succ])
  refine wpAnyH_take (i := 9) (oi := ?_) (v := ?_) ?_ (by kernel_rfl) (by decide +kernel) (by decide +kernel) (fun _ _ _ h => h) ?_ (by assumption) ?_
  rotate_left 2
  focus (simp only [List.getElem?_toArray, List.getElem?_cons_succ, List.getElem?_cons_zero] <;> rfl)
  · refine Or.inl ⟨by rfl, ?_⟩
    intro w hSw
    (try dsimp only at hSw)
    go_simp <;> with_reducible rfl
  (try simp only [Act.put, List.setIfInBounds_toArray, List.set_cons_zero, List.set_cons_succ])
  refine wpAnyH_take (i := 10) (oi := ?_) (v := ?_) ?_ (by kernel_rfl) (by decide +kernel) (by decide +kernel) (fun _ _ _ h => h) ?_ (by assumption) ?_
  rotate_left 2
  focus (simp only [List.getElem?_toArray, List.getElem?_cons_succ, List.getElem?_cons_zero] <;> rfl)
  · refine Or.inl ⟨by rfl, ?_⟩
    intro w hSw
    (try dsimp only at hSw)
    go_simp <;> with_reducible rfl
  (try simp only [Act.put, List.setIfInBounds_toArray, List.set_cons_zero, List.set_cons_succ])
  refine wpAnyH_take (i := 11) (oi := ?_) (v := ?_) ?_ (by kernel_rfl) (by decide +kernel) (by decide +kernel) (fun _ _ _ h => h) ?_ (by assumption) ?_
  rotate_left 2
  focus (simp only [List.getElem?_toArray, List.getElem?_cons_succ, List.getElem?_cons_zero] <;> rfl)
  · refine Or.inl ⟨by rfl, ?_⟩
    intro w hSw
    (try dsimp only at hSw)
    go_simp <;> with_reducible rfl
  (try simp only [Act.put, List.setIfInBounds_toArray, List.set_cons_zero, List.set_cons_succ])
  refine wpAnyH_take (i := 12) (oi := ?_) (v := .agg (ringC x12 U)) ?_ (by kernel_rfl) (by decide +kernel) (by decide +kernel) (fun _ _ _ h => h) ?_ (by assumption) ?_
  rotate_left 1
  focus (simp only [List.getElem?_toArray, List.getElem?_cons_succ, List.getElem?_cons_zero] <;> rfl)
  · refine yieldsX (T := 26) ?_ (.tmp 12) ?_ ⟨g12, 0, none⟩ ?_ (ringC x12 U) ?_
    focus rfl
    focus exact rfl
    focus exact rfl
    exact fun w hSw => run_loadX tyRing rfl (Bx.go G12.out hSw)
  (try simp only [Act.put, List.setIfInBounds_toArray, List.set_cons_zero, List.set_cons_succ])
  refine wpAnyH_take (i := 13) (oi := ?_) (v := .agg (ringC x14 U)) ?_ (by kernel_rfl) (by decide +kernel) (by decide +kernel) (fun _ _ _ h => h) ?_ (by assumption) ?_
  rotate_left 1
  focus (simp only [List.getElem?_toArray, List.getElem?_cons_succ, List.getElem?_cons_zero] <;> rfl)
  · refine yieldsX (T := 26) ?_ (.tmp 14) ?_ ⟨g14, 0, none⟩ ?_ (ringC x14 U) ?_
    focus rfl
    focus exact rfl
    focus exact rfl
    exact fun w hSw => run_loadX tyRing rfl (Bx.go G14.out hSw)
  (try simp only [Act.put, List.setIfInBounds_toArray, List.set_cons_zero, List.set_cons_succ])
  refine wpAnyH_ready (rs := [14]) (by decide +kernel) (by simp) ?_
  refine AllReadyH.cons rfl (fun K hK => ?_) AllReadyH.nil
  go_simp
  go_at_call 13
  refine (CS.out x12 x14 U _ (RG12.out.go BB1.out) (RG14.out.go BB1.out)).mono ?_
  rintro e wz2 ⟨rfl, hb⟩
  have BB2 := Lib.hid (belG BB1.out hb BB1.out.size)
  clear hb
  refine hK.out _ _ (KEEP.out _ BB2.out) (fun hHeld => ?_)
  clear hK K
  (try simp only [Act.put, List.setIfInBounds_toArray, List.set_cons_zero, List.set_cons_succ])
  refine wpAnyH_take (i := 15) (oi := ?_) (v := ?_) ?_ (by kernel_rfl) (by decide +kernel) (by decide +kernel) (fun _ _ _ h => h) ?_ (by assumption) ?_
  rotate_left 2
  focus (simp only [List.getElem?_toArray, List.getElem?_cons_succ, List.getElem?_cons_zero] <;> rfl)
  · refine Or.inl ⟨by rfl, ?_⟩
    intro w hSw
    (try dsimp only at hSw)
    go_simp <;> with_reducible rfl
  (try simp only [Act.put, List.setIfInBounds_toArray, List.set_cons_zero, List.set_cons_succ])
  refine wpAnyH_take (i := 16) (oi := ?_) (v := ?_) ?_ (by kernel_rfl) (by decide +kernel) (by decide +kernel) (fun _ _ _ h => h) ?_ (by assumption) ?_
  rotate_left 2
  focus (simp only [List.getElem?_toArray, List.getElem?_cons_succ, List.getElem?_cons_zero] <;> rfl)
  · refine Or.inl ⟨by rfl, ?_⟩
    intro w hSw
    (try dsimp only at hSw)
    go_simp <;> with_reducible rfl
  (try simp only [Act.put, List.setIfInBounds_toArray, List.set_cons_zero, List.set_cons_succ])
  refine wpAnyH_take (i := 17) (oi := ?_) (v := ?_) ?_ (by kernel_rfl) (by decide +kernel) (by decide +kernel) (fun _ _ _ h => h) ?_ (by assumption) ?_
  rotate_left 2
  focus (simp only [List.getElem?_toArray, List.getElem?_cons_succ, List.getElem?_cons_zero] <;> rfl)
  · refine Or.inl ⟨by rfl, ?_⟩
    intro w hSw
    (try dsimp only at hSw)
    go_simp <;> with_reducible rfl
  (try simp only [Act.put, List.setIfInBounds_toArray, List.set_cons_zero, List.set_cons_succ])
  refine wpAnyH_take (i := 18) (oi := ?_) (v := ?_) ?_ (by kernel_rfl) (by decide +kernel) (by decide +kernel) (fun _ _ _ h => h) ?_ (by assumption) ?_
  rotate_left 2
  focus (simp only [List.getElem?_toArray, List.getElem?_cons_succ, List.getElem?_cons_zero] <;> rfl)
  · refine Or.inl ⟨by rfl, ?_⟩
    intro w hSw
    (try dsimp only at hSw)
    go_simp <;> with_reducible rfl
  (try simp only [Act.put, List.setIfInBounds_toArray, List.set_cons_zero, List.set_cons_succ])
  refine wpAnyH_take (i := 19) (oi := ?_) (v := ?_) ?_ (by kernel_rfl) (by decide +kernel) (by decide +kernel) (fun _ _ _ h => h) ?_ (by assumption) ?_
  rotate_left 2
  focus (simp only [List.getElem?_toArray, List.getElem?_cons_succ, List.getElem?_cons_zero] <;> rfl)
  · refine Or.inl ⟨by rfl, ?_⟩
    intro w hSw
    (try dsimp only at hSw)
    go_simp <;> with_reducible rfl
  (try simp only [Act.put, List.setIfInBounds_toArray, List.set_cons_zero, List.set_cons_succ])
  refine wpAnyH_take (i := 20) (oi := ?_) (v := ?_) ?_ (by kernel_rfl) (by decide +kernel) (by decide +kernel) (fun _ _ _ h => h) ?_ (by assumption) ?_
  rotate_left 2
  focus (simp only [List.getElem?_toArray, List.getElem?_cons_succ, List.getElem?_cons_zero] <;> rfl)
  · refine Or.inl ⟨by rfl, ?_⟩
    intro w hSw
    (try dsimp only at hSw)
    go_simp <;> with_reducible rfl
  (try simp only [Act.put, List.setIfInBounds_toArray, List.set_cons_zero, List.set_cons_succ])
  refine wpAnyH_take (i := 21) (oi := ?_) (v := ?_) ?_ (by kernel_rfl) (by decide +kernel) (by decide +kernel) (fun _ _ _ h => h) ?_ (by assumption) ?_
  rotate_left 2
  focus (simp only [List.getElem?_toArray, List.getElem?_cons_succ, List.getElem?_cons_zero] <;> rfl)
  · refine Or.inl ⟨by rfl, ?_⟩
    intro w hSw
    (try dsimp only at hSw)
    go_simp <;> with_reducible rfl
  (try simp only [Act.put, List.setIfInBounds_toArray, List.set_cons_zero, List.set_cons_succ])
  refine wpAnyH_take (i := 22) (oi := ?_) (v := .agg (ringC xa a)) ?_ (by kernel_rfl) (by decide +kernel) (by decide +kernel) (fun _ _ _ h => h) ?_ (by assumption) ?_
  rotate_left 1
  focus (simp only [List.getElem?_toArray, List.getElem?_cons_succ, List.getElem?_cons_zero] <;> rfl)
  · refine yieldsX (T := 26) ?_ (.tmp 3) ?_ ⟨W.heap.size, 0, none⟩ ?_ (ringC xa a) ?_
    focus rfl
    focus exact rfl
    focus exact rfl
    exact fun w hSw => run_loadX tyRing rfl (Bx.go G3.out hSw)
  (try simp only [Act.put, List.setIfInBounds_toArray, List.set_cons_zero, List.set_cons_succ])
  refine wpAnyH_take (i := 24) (oi := ?_) (v := .agg (ringC xa a)) ?_ (by kernel_rfl) (by decide +kernel) (by decide +kernel) (fun _ _ _ h => h) ?_ (by assumption) ?_
  rotate_left 1
  focus (simp only [List.getElem?_toArray, List.getElem?_cons_succ, List.getElem?_cons_zero] <;> rfl)
  · refine yieldsX (T := 26) ?_ (.tmp 3) ?_ ⟨W.heap.size, 0, none⟩ ?_ (ringC xa a) ?_
    focus rfl
    focus exact rfl
    focus exact rfl
    exact fun w hSw => run_loadX tyRing rfl (Bx.go G3.out hSw)
  (try simp only [Act.put, List.setIfInBounds_toArray, List.set_cons_zero, List.set_cons_succ])
  refine wpAnyH_ready (rs := [23]) (by decide +kernel) (by simp) ?_
  refine AllReadyH.cons rfl (fun K hK => ?_) AllReadyH.nil
  go_simp
  go_at_call 25
  refine (CW.out _ (RA.out.go BB2.out)).mono ?_
  rintro e wz3 ⟨⟨d1, rfl, hk⟩, hb⟩
  have BB3 := Lib.hid (belG BB2.out hb BB2.out.size)
  have RD_3 := Lib.hid hk
  clear hk
  clear hb
  refine hK.out _ _ (KEEP.out _ BB3.out) (fun hHeld => ?_)
  clear hK K
  (try simp only [Act.put, List.setIfInBounds_toArray, List.set_cons_zero, List.set_cons_succ])
  refine wpAnyH_ready (rs := [25]) (by decide +kernel) (by simp) ?_
  refine AllReadyH.cons rfl (fun K hK => ?_) AllReadyH.nil
  go_simp
  go_at_call 26
  refine (CX.out _ (RA.out.go BB3.out)).mono ?_
  rintro e wz4 ⟨⟨d2, rfl, hk⟩, hb⟩
  have BB4 := Lib.hid (belG BB3.out hb BB3.out.size)
  have RD_4 := Lib.hid (RD_3.out.go hb)
  have RE_4 := Lib.hid hk
  clear hk
  clear hb
  refine hK.out _ _ (KEEP.out _ BB4.out) (fun hHeld => ?_)
  clear hK K
  (try simp only [Act.put, List.setIfInBounds_toArray, List.set_cons_zero, List.set_cons_succ])
  refine wpAnyH_ready (rs := [26]) (by decide +kernel) (by simp) ?_
  refine AllReadyH.cons rfl (fun K hK => ?_) AllReadyH.nil
  go_simp
  go_at_call 13
  refine (CS.out d1 d2 D _ RD_4.out RE_4.out).mono ?_
  rintro e wz5 ⟨rfl, hb⟩
  have BB5 := Lib.hid (belG BB4.out hb BB4.out.size)
  have RD_5 := Lib.hid (RD_4.out.go hb)
  have RE_5 := Lib.hid (RE_4.out.go hb)
  clear hb
  refine hK.out _ _ (KEEP.out _ BB5.out) (fun hHeld => ?_)
  clear hK K
  (try simp only [Act.put, List.setIfInBounds_toArray, List.set_cons_zero, List.set_cons_succ])
  refine wpAnyH_take (i := 27) (oi := ?_) (v := ?_) ?_ (by kernel_rfl) (by decide +kernel) (by decide +kernel) (fun _ _ _ h => h) ?_ (by assumption) ?_
  rotate_left 2
  focus (simp only [List.getElem?_toArray, List.getElem?_cons_succ, List.getElem?_cons_zero] <;> rfl)
  · refine Or.inl ⟨by rfl, ?_⟩
    intro w hSw
    (try dsimp only at hSw)
    go_simp <;> with_reducible rfl
  (try simp only [Act.put, List.setIfInBounds_toArray, List.set_cons_zero, List.set_cons_succ])
  refine wpAnyH_take (i := 28) (oi := ?_) (v := ?_) ?_ (by kernel_rfl) (by decide +kernel) (by decide +kernel) (fun _ _ _ h => h) ?_ (by assumption) ?_
  rotate_left 2
  focus (simp only [List.getElem?_toArray, List.getElem?_cons_succ, List.getElem?_cons_zero] <;> rfl)
  · refine Or.inl ⟨by rfl, ?_⟩
    intro w hSw
    (try dsimp only at hSw)
    go_simp <;> with_reducible rfl
  (try simp only [Act.put, List.setIfInBounds_toArray, List.set_cons_zero, List.set_cons_succ])
  refine wpAnyH_take (i := 29) (oi := ?_) (v := .agg (ringC xa a)) ?_ (by kernel_rfl) (by decide +kernel) (by decide +kernel) (fun _ _ _ h => h) ?_ (by assumption) ?_
  rotate_left 1
  focus (simp only [List.getElem?_toArray, List.getElem?_cons_succ, List.getElem?_cons_zero] <;> rfl)
  · refine yieldsX (T := 26) ?_ (.tmp 3) ?_ ⟨W.heap.size, 0, none⟩ ?_ (ringC xa a) ?_
    focus rfl
    focus exact rfl
    focus exact rfl
    exact fun w hSw => run_loadX tyRing rfl (Bx.go G3.out hSw)
  (try simp only [Act.put, List.setIfInBounds_toArray, List.set_cons_zero, List.set_cons_succ])
  refine wpAnyH_take (i := 31) (oi := ?_) (v := .agg (ringC xa a)) ?_ (by kernel_rfl) (by decide +kernel) (by decide +kernel) (fun _ _ _ h => h) ?_ (by assumption) ?_
  rotate_left 1
  focus (simp only [List.getElem?_toArray, List.getElem?_cons_succ, List.getElem?_cons_zero] <;> rfl)
  · refine yieldsX (T := 26) ?_ (.tmp 3) ?_ ⟨W.heap.size, 0, none⟩ ?_ (ringC xa a) ?_
    focus rfl
    focus exact rfl
    focus exact rfl
    exact fun w hSw => run_loadX tyRing rfl (Bx.go G3.out hSw)
  (try simp only [Act.put, List.setIfInBounds_toArray, List.set_cons_zero, List.set_cons_succ])
  refine wpAnyH_ready (rs := [30]) (by decide +kernel) (by simp) ?_
  refine AllReadyH.cons rfl (fun K hK => ?_) AllReadyH.nil
  go_simp
  go_at_call 27
  refine (CY.out _ (RA.out.go BB5.out)).mono ?_
  rintro e wz6 ⟨⟨t1, rfl, hk⟩, hb⟩
  have BB6 := Lib.hid (belG BB5.out hb BB5.out.size)
  have RD_6 := Lib.hid (RD_5.out.go hb)
  have RE_6 := Lib.hid (RE_5.out.go hb)
  have RM_6 := Lib.hid hk
  clear hk
  clear hb
  refine hK.out _ _ (KEEP.out _ BB6.out) (fun hHeld => ?_)
  clear hK K
  (try simp only [Act.put, List.setIfInBounds_toArray, List.set_cons_zero, List.set_cons_succ])
  refine wpAnyH_ready (rs := [32]) (by decide +kernel) (by simp) ?_
  refine AllReadyH.cons rfl (fun K hK => ?_) AllReadyH.nil
  go_simp
  go_at_call 28
  refine (CZ.out _ (RA.out.go BB6.out)).mono ?_
  rintro e wz7 ⟨⟨t2, rfl, hk⟩, hb⟩
  have BB7 := Lib.hid (belG BB6.out hb BB6.out.size)
  have RD_7 := Lib.hid (RD_6.out.go hb)
  have RE_7 := Lib.hid (RE_6.out.go hb)
  have RM_7 := Lib.hid (RM_6.out.go hb)
  have RN_7 := Lib.hid hk
  clear hk
  clear hb
  refine hK.out _ _ (KEEP.out _ BB7.out) (fun hHeld => ?_)
  clear hK K
  (try simp only [Act.put, List.setIfInBounds_toArray, List.set_cons_zero, List.set_cons_succ])
  refine wpAnyH_ready (rs := [33]) (by decide +kernel) (by simp) ?_
  refine AllReadyH.cons rfl (fun K hK => ?_) AllReadyH.nil
  go_simp
  go_at_call 13
  refine (CS.out t1 t2 J _ RM_7.out RN_7.out).mono ?_
  rintro e wz8 ⟨rfl, hb⟩
  have BB8 := Lib.hid (belG BB7.out hb BB7.out.size)
  have RD_8 := Lib.hid (RD_7.out.go hb)
  have RE_8 := Lib.hid (RE_7.out.go hb)
  have RM_8 := Lib.hid (RM_7.out.go hb)
  have RN_8 := Lib.hid (RN_7.out.go hb)
  clear hb
  refine hK.out _ _ (KEEP.out _ BB8.out) (fun hHeld => ?_)
  clear hK K
  (try simp only [Act.put, List.setIfInBounds_toArray, List.set_cons_zero, List.set_cons_succ])
  refine wpAnyH_take (i := 34) (oi := ?_) (v := ?_) ?_ (by kernel_rfl) (by decide +kernel) (by decide +kernel) (fun _ _ _ h => h) ?_ (by assumption) ?_
  rotate_left 2
  focus (simp only [List.getElem?_toArray, List.getElem?_cons_succ, List.getElem?_cons_zero] <;> rfl)
  · refine Or.inl ⟨by rfl, ?_⟩
    intro w hSw
    (try dsimp only at hSw)
    go_simp <;> with_reducible rfl
  (try simp only [Act.put, List.setIfInBounds_toArray, List.set_cons_zero, List.set_cons_succ])
  refine wpAnyH_take (i := 35) (oi := ?_) (v := ?_) ?_ (by kernel_rfl) (by decide +kernel) (by decide +kernel) (fun _ _ _ h => h) ?_ (by assumption) ?_
  rotate_left 2
  focus (simp only [List.getElem?_toArray, List.getElem?_cons_succ, List.getElem?_cons_zero] <;> rfl)
  · refine Or.inl ⟨by rfl, ?_⟩
    intro w hSw
    (try dsimp only at hSw)
    go_simp <;> with_reducible rfl
  (try simp only [Act.put, List.setIfInBounds_toArray, List.set_cons_zero, List.set_cons_succ])
  refine wpAnyH_done (by decide +kernel) ?_ _
  refine NoPanic.normal ?_
  clear KEEP
  obtain ⟨w8, hw⟩ : ∃ x, x = wz8 := ⟨_, rfl⟩
  have hb : Below V7.heap.size V7 w8 := by rw [hw]; exact BB8.out
  rw [← hw]
  have nHB := Lib.hid (belG HB.out hb HB.out.size)
  have nRA := Lib.hid (RA.out.go hb)
  have nRK := Lib.hid (RK.out.go hb)
  have nRG8 := Lib.hid (RG8.out.go hb)
  have nRG10 := Lib.hid (RG10.out.go hb)
  have nRG12 := Lib.hid (RG12.out.go hb)
  have nRG14 := Lib.hid (RG14.out.go hb)
  have nG3 := Lib.hid (Bx.go G3.out hb)
  have nG8 := Lib.hid (Bx.go G8.out hb)
  have nG10 := Lib.hid (Bx.go G10.out hb)
  have nG12 := Lib.hid (Bx.go G12.out hb)
  have nG14 := Lib.hid (Bx.go G14.out hb)
  clear hb hw
  clear HB RA RK RG8 RG10 RG12 RG14 G3 G8 G10 G12 G14
  have HB := nHB
  have RA := nRA
  have RK := nRK
  have RG8 := nRG8
  have RG10 := nRG10
  have RG12 := nRG12
  have RG14 := nRG14
  have G3 := nG3
  have G8 := nG8
  have G10 := nG10
  have G12 := nG12
  have G14 := nG14
  clear nHB nRA nRK nRG8 nRG10 nRG12 nRG14 nG3 nG8 nG10 nG12 nG14
  go_wp2_with fail
  go_ret
  exact ⟨by first | rfl | simp, HB.out⟩
set_option maxRecDepth 100000 in
theorem ringDoes_walkI (xa : Wg) (a : Rg) (no : Int) (A : Option Addr) (k : List UInt8) (c : Nat) (W : World) (ha64 : Rg64 a) (hra : RingR W xa a) (hn : -9223372036854775808 ≤ no ∧ no ≤ 9223372036854775807) (hlc : k.length ≤ c) (hcm : c ≤ 9223372036854775807) (hk : Rd W W.heap.size A k) :
    Calls Try.prog 4 #[.agg (ringC xa a), .int .i64 no, .slice A k.length c] W fun e W' => e = .returned (.bool true) ∧ Below W.heap.size W W' := ringDoes_walk xa a no A k c W ha64 hn hra ⟨hlc, hcm, hk⟩
end Go.Proofs.Ytgnccfcdonoegaa
