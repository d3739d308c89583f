
/- HubApart's walk, where the connection is down, and asked for. -/
import Derived.Test.YtplekllhnpljiaaJ31
namespace Go.Proofs.Ytplekllhnpljiaa
open Go.RowKit

set_option maxRecDepth 100000 in
set_option maxHeartbeats 40000000 in
theorem hubApart_d (x : Wh) (h : Hb) (p : Nat) (B : Option Addr) (v : List UInt8) (d : Nat) (o : Int) (W : World) (hl : Hb64 h) (hr : HubR W x h) (hc : B64 (p : Nat)) (hd : v.length ≤ d) (hdm : d ≤ 9223372036854775807) (hrb : Rd W W.heap.size B v) (ho : 0 ≤ o ∧ o ≤ 255) (h1 : fewH h) (hR : RightHb h) (h2 : ¬ 2000 < v.length) (hp4 : p < 4) (hu : h.up p = false) (hqp : (o % 4).toNat = p) :
    Calls Try.prog 6 #[.agg (hubCw x h (.int .i64 (p : Nat)) (.slice B v.length d) (.int .u8 o))] W fun e W' => e = .returned (.bool true) ∧ Below W.heap.size W W' := by
  have R0 := Lib.hid hr
  have R1 := Lib.hid hrb
  have HL := Lib.hid hl
  have CF := Lib.hid (fun w => refFew_any x h w)
  have CR := Lib.hid (fun w (hB : Below W.heap.size W w) (r0 : HubR w x h) => refRight9_any x h w r0)
  rw [decide_eq_true h1] at CF
  rw [decide_eq_true hR] at CR
  have i0 : ¬ (2000 : Int) < (v.length : Int) := by omega
  obtain ⟨q, hq⟩ : ∃ q : Nat, q = (o % 4).toNat := ⟨_, rfl⟩
  have hq4 : q < 4 := by omega
  have hq0 : o % 4 = (q : Int) := by omega
  have hq1 : o.tmod 4 = (q : Int) := by rw [Int.tmod_eq_emod_of_nonneg ho.1]; exact hq0
  have hq2 : (0 : Int) ≤ (q : Int) := by omega
  have hq3 : (q : Int) < 4 := by omega
  have ho1 := ho.1
  have ho2 := ho.2
  have HRT := Lib.hid hR
  have C1 := Lib.hid (fun w (hB : Below W.heap.size W w) (r0 : HubR w x h) => hRaise_any x h (p : Nat) w hR HL.out r0 hc)
  have C2 := Lib.hid (fun w (hB : Below W.heap.size W w) (r0 : HubR w x h) => hCut_any x h (p : Nat) w hR HL.out r0 hc)
  have C3 := Lib.hid (fun w (hB : Below W.heap.size W w) (r0 : HubR w x h) (r1 : Rd w w.heap.size B v) => hPush_any x h (p : Nat) B v d w hR HL.out r0 hc (by omega) hd hdm r1)
  unfold AnsHb at C1 C2
  unfold AnsPu at C3
  have HSH := Lib.hid (fun (x1 x2 : Wh) w (k1 : HubR w x1 h) (k2 : HubR w x2 h) => refSame9_any x1 x2 h h w k1 k2)
  simp only [decide_eq_true (SameHb.refl h)] at HSH
  obtain ⟨n, hn⟩ : ∃ n, n = v.length := ⟨_, rfl⟩
  rw [← hn]
  rw [← hn] at C3 i0
  have hpq : p = q := by omega
  clear hl hr hc hd hdm hrb ho hn hq h1 h2 hqp
  rw [raise_lives hu hp4] at C1
  rw [cut_down hu hp4] at C2
  rw [push_down hu hp4] at C3
  simp only [List.length_nil] at C3
  have z1 : RightHb (raiseH h p) := raise_right hR p
  have Z1 := Lib.hid (fun (y : Wh) w (r0 : HubR w y (raiseH h p)) => refRight9_any y (raiseH h p) w r0)
  rw [decide_eq_true (z1)] at Z1
  have Z2 := Lib.hid (fun (y : Wh) w (r0 : HubR w y h) => refRight9_any y h w r0)
  rw [decide_eq_true (hR)] at Z2
  have Z3 := Lib.hid (fun (y : Wh) w (r0 : HubR w y h) => refRight9_any y h w r0)
  rw [decide_eq_true (hR)] at Z3
  subst hpq
  have HUQ := Lib.hid ((hubC_up x h hp4).trans (by rw [hu]))
  clear hu z1 hR
  obtain ⟨C, hC⟩ : ∃ C, C = hubCw x h (.int .i64 (p : Nat)) (.slice B n d) (.int .u8 o) := ⟨_, rfl⟩
  have hb := (Below.refl W.heap.size W).alloc (Nat.le_refl _) (.cells C 51)
  have hg := heap_alloc_new W (.cells C 51)
  obtain ⟨V0, hV⟩ : ∃ V, V = W.alloc (.cells C 51) := ⟨_, rfl⟩
  rw [← hV] at hb hg
  have HB := Lib.hid hb
  have hgw : V0.heap[W.heap.size]? = some (.cells (hubCw x h (.int .i64 (p : Nat)) (.slice B n d) (.int .u8 o)) 51 (0, 0)) := by rw [← hC]; exact hg
  have GW := Lib.hid hgw
  rw [← hC]
  have nR0 := Lib.hid ((R0.out.below hb (Nat.le_refl _)).more hb.size)
  have nR1 := Lib.hid ((R1.out.below hb (Nat.le_refl _)).more hb.size)
  have HV := Lib.hid hV
  clear hb hg hV hC hgw
  clear R0 R1
  have R0 := nR0
  have R1 := nR1
  clear nR0 nR1
  go_enter Try.func6, Try.ntmps6
  go_upto_region 1 with (fail)
  rw [← HV.out]
  clear HV
  have GWP := GW
  have LB := Lib.hid HB.out.size
  obtain ⟨V1, hV1⟩ : ∃ V, V = V0.alloc (.cells (hubC x h) 29) := ⟨_, rfl⟩
  have ha := (Below.refl V0.heap.size V0).alloc (Nat.le_refl _) (.cells (hubC x h) 29)
  have hg := heap_alloc_new V0 (.cells (hubC x h) 29)
  have nHB := Lib.hid (HB.out.alloc HB.out.size (.cells (hubC x h) 29))
  rw [← hV1] at ha hg nHB
  have nR0 := Lib.hid ((R0.out.below ha (Nat.le_refl _)).more ha.size)
  have nR1 := Lib.hid ((R1.out.below ha (Nat.le_refl _)).more ha.size)
  have nGW := Lib.hid (oldG GW.out ha (Nat.le_refl _))
  obtain ⟨g3, hg3⟩ : ∃ g, g = V0.heap.size := ⟨_, rfl⟩
  rw [← hg3] at hg
  have HXG3 := Lib.hid hg3
  have G3 := Lib.hid hg
  have HV := Lib.hid hV1
  clear ha hg hV1 hg3
  clear HB R0 R1 GW
  have HB := nHB
  have R0 := nR0
  have R1 := nR1
  have GW := nGW
  clear nHB nR0 nR1 nGW
  have LEG3 := Lib.hid (show W.heap.size ≤ g3 from by rw [HXG3.out]; exact LB.out)
  clear LB
  go_upto_region 2 with (first | (refine loadHw _ (.tmp 16) W.heap.size _ x h _ _ _ GWP.out rfl rfl rfl ?_) | (refine storeHb _ (.tmp 3) (.tmp 17) _ x h _ (heap_alloc_new _ _) rfl rfl rfl rfl rfl ?_; rw [setRowG_fold]))
  rw [← HV.out]
  (try rw [← HXG3.out])
  clear HV HXG3
  have u0 := (cell_of_row _ _ 21 _ _ _ GW.out).trans (hubCw_a _ _ _ _ _)
  have u1 := (cell_of_row _ _ 22 _ _ _ GW.out).trans (hubCw_b _ _ _ _ _)
  have u2 := (cell_of_row _ _ 23 _ _ _ GW.out).trans (hubCw_c _ _ _ _ _)
  clear GWP
  go_wp2_with (first | (refine loadHb _ (.tmp 3) g3 x h G3.out rfl rfl rfl ?_))
  clear u0 u1 u2 GW
  refine (shown9_any _).mono ?_
  rintro e w2 ⟨rfl, hb⟩
  have nHB := Lib.hid (belG HB.out hb HB.out.size)
  have nR0 := Lib.hid ((R0.out.below hb (Nat.le_refl _)).more hb.size)
  have nR1 := Lib.hid ((R1.out.below hb (Nat.le_refl _)).more hb.size)
  have nG3 := Lib.hid (oldG G3.out hb (Nat.le_refl _))
  clear hb
  clear HB R0 R1 G3
  have HB := nHB
  have R0 := nR0
  have R1 := nR1
  have G3 := nG3
  clear nHB nR0 nR1 nG3
  go_wp2_with (first | (refine loadHb _ (.tmp 3) g3 x h G3.out rfl rfl rfl ?_))
  refine (CF.out _).mono ?_
  rintro e w3 ⟨rfl, hb⟩
  have nHB := Lib.hid (belG HB.out hb HB.out.size)
  have nR0 := Lib.hid ((R0.out.below hb (Nat.le_refl _)).more hb.size)
  have nR1 := Lib.hid ((R1.out.below hb (Nat.le_refl _)).more hb.size)
  have nG3 := Lib.hid (oldG G3.out hb (Nat.le_refl _))
  clear hb
  clear HB R0 R1 G3
  have HB := nHB
  have R0 := nR0
  have R1 := nR1
  have G3 := nG3
  clear nHB nR0 nR1 nG3
  go_wp2_with (first | (refine loadHb _ (.tmp 3) g3 x h G3.out rfl rfl rfl ?_))
  refine (CR.out _ HB.out R0.out).mono ?_
  rintro e w4 ⟨rfl, hb⟩
  have nHB := Lib.hid (belG HB.out hb HB.out.size)
  have nR0 := Lib.hid ((R0.out.below hb (Nat.le_refl _)).more hb.size)
  have nR1 := Lib.hid ((R1.out.below hb (Nat.le_refl _)).more hb.size)
  have nG3 := Lib.hid (oldG G3.out hb (Nat.le_refl _))
  clear hb
  clear HB R0 R1 G3
  have HB := nHB
  have R0 := nR0
  have R1 := nR1
  have G3 := nG3
  clear nHB nR0 nR1 nG3
  go_wp2_with (first | (refine loadHb _ (.tmp 3) g3 x h G3.out rfl rfl rfl ?_))
  refine (C1.out _ HB.out R0.out).mono ?_
  rintro e w5 ⟨⟨x1, rfl, k1⟩, hb⟩
  have nHB := Lib.hid (belG HB.out hb HB.out.size)
  have nR0 := Lib.hid ((R0.out.below hb (Nat.le_refl _)).more hb.size)
  have nR1 := Lib.hid ((R1.out.below hb (Nat.le_refl _)).more hb.size)
  have nG3 := Lib.hid (oldG G3.out hb (Nat.le_refl _))
  clear hb
  clear HB R0 R1 G3
  have HB := nHB
  have R0 := nR0
  have R1 := nR1
  have G3 := nG3
  clear nHB nR0 nR1 nG3
  have R2 := Lib.hid k1
  clear k1
  have LB := Lib.hid HB.out.size
  have LTG3 := Lib.hid (show g3 < w5.heap.size from (Array.getElem?_eq_some_iff.1 G3.out).1)
  obtain ⟨V5, hV5⟩ : ∃ V, V = w5.alloc (.cells (hubC x1 (raiseH h p)) 29) := ⟨_, rfl⟩
  have ha := (Below.refl w5.heap.size w5).alloc (Nat.le_refl _) (.cells (hubC x1 (raiseH h p)) 29)
  have hg := heap_alloc_new w5 (.cells (hubC x1 (raiseH h p)) 29)
  have nHB := Lib.hid (HB.out.alloc HB.out.size (.cells (hubC x1 (raiseH h p)) 29))
  rw [← hV5] at ha hg nHB
  have nR0 := Lib.hid ((R0.out.below ha (Nat.le_refl _)).more ha.size)
  have nR1 := Lib.hid ((R1.out.below ha (Nat.le_refl _)).more ha.size)
  have nR2 := Lib.hid ((R2.out.below ha (Nat.le_refl _)).more ha.size)
  have nG3 := Lib.hid (oldG G3.out ha (Nat.le_refl _))
  obtain ⟨g9, hg9⟩ : ∃ g, g = w5.heap.size := ⟨_, rfl⟩
  rw [← hg9] at hg
  have HXG9 := Lib.hid hg9
  have G9 := Lib.hid hg
  have HV := Lib.hid hV5
  clear ha hg hV5 hg9
  clear HB R0 R1 R2 G3
  have HB := nHB
  have R0 := nR0
  have R1 := nR1
  have R2 := nR2
  have G3 := nG3
  clear nHB nR0 nR1 nR2 nG3
  have LEG9 := Lib.hid (show W.heap.size ≤ g9 from by rw [HXG9.out]; exact LB.out)
  have NEG3G9 := Lib.hid (show g3 ≠ g9 from by have h1 := LTG3.out; rw [HXG9.out]; omega)
  have NEG9G3 := Lib.hid (NEG3G9.out.symm)
  clear LB LTG3
  go_upto_region 10 with (refine storeHb _ (.tmp 9) (.tmp 46) _ x1 (raiseH h p) _ (heap_alloc_new _ _) rfl rfl rfl rfl rfl ?_; rw [setRowG_fold])
  rw [← HV.out]
  (try rw [← HXG9.out])
  clear HV HXG9
  go_wp2_with (first | (refine loadHb _ (.tmp 3) g3 x h G3.out rfl rfl rfl ?_) | (refine loadHb _ (.tmp 9) g9 x1 (raiseH h p) G9.out rfl rfl rfl ?_))
  refine (C2.out _ HB.out R0.out).mono ?_
  rintro e w6 ⟨⟨x2, rfl, k2⟩, hb⟩
  have nHB := Lib.hid (belG HB.out hb HB.out.size)
  have nR0 := Lib.hid ((R0.out.below hb (Nat.le_refl _)).more hb.size)
  have nR1 := Lib.hid ((R1.out.below hb (Nat.le_refl _)).more hb.size)
  have nR2 := Lib.hid ((R2.out.below hb (Nat.le_refl _)).more hb.size)
  have nG3 := Lib.hid (oldG G3.out hb (Nat.le_refl _))
  have nG9 := Lib.hid (oldG G9.out hb (Nat.le_refl _))
  clear hb
  clear HB R0 R1 R2 G3 G9
  have HB := nHB
  have R0 := nR0
  have R1 := nR1
  have R2 := nR2
  have G3 := nG3
  have G9 := nG9
  clear nHB nR0 nR1 nR2 nG3 nG9
  have R3 := Lib.hid k2
  clear k2
  have LB := Lib.hid HB.out.size
  have LTG3 := Lib.hid (show g3 < w6.heap.size from (Array.getElem?_eq_some_iff.1 G3.out).1)
  have LTG9 := Lib.hid (show g9 < w6.heap.size from (Array.getElem?_eq_some_iff.1 G9.out).1)
  obtain ⟨V6, hV6⟩ : ∃ V, V = w6.alloc (.cells (hubC x2 h) 29) := ⟨_, rfl⟩
  have ha := (Below.refl w6.heap.size w6).alloc (Nat.le_refl _) (.cells (hubC x2 h) 29)
  have hg := heap_alloc_new w6 (.cells (hubC x2 h) 29)
  have nHB := Lib.hid (HB.out.alloc HB.out.size (.cells (hubC x2 h) 29))
  rw [← hV6] at ha hg nHB
  have nR0 := Lib.hid ((R0.out.below ha (Nat.le_refl _)).more ha.size)
  have nR1 := Lib.hid ((R1.out.below ha (Nat.le_refl _)).more ha.size)
  have nR2 := Lib.hid ((R2.out.below ha (Nat.le_refl _)).more ha.size)
  have nR3 := Lib.hid ((R3.out.below ha (Nat.le_refl _)).more ha.size)
  have nG3 := Lib.hid (oldG G3.out ha (Nat.le_refl _))
  have nG9 := Lib.hid (oldG G9.out ha (Nat.le_refl _))
  obtain ⟨g11, hg11⟩ : ∃ g, g = w6.heap.size := ⟨_, rfl⟩
  rw [← hg11] at hg
  have HXG11 := Lib.hid hg11
  have G11 := Lib.hid hg
  have HV := Lib.hid hV6
  clear ha hg hV6 hg11
  clear HB R0 R1 R2 R3 G3 G9
  have HB := nHB
  have R0 := nR0
  have R1 := nR1
  have R2 := nR2
  have R3 := nR3
  have G3 := nG3
  have G9 := nG9
  clear nHB nR0 nR1 nR2 nR3 nG3 nG9
  have LEG11 := Lib.hid (show W.heap.size ≤ g11 from by rw [HXG11.out]; exact LB.out)
  have NEG3G11 := Lib.hid (show g3 ≠ g11 from by have h1 := LTG3.out; rw [HXG11.out]; omega)
  have NEG11G3 := Lib.hid (NEG3G11.out.symm)
  have NEG9G11 := Lib.hid (show g9 ≠ g11 from by have h1 := LTG9.out; rw [HXG11.out]; omega)
  have NEG11G9 := Lib.hid (NEG9G11.out.symm)
  clear LB LTG3 LTG9
  go_upto_region 11 with (refine storeHb _ (.tmp 11) (.tmp 52) _ x2 h _ (heap_alloc_new _ _) rfl rfl rfl rfl rfl ?_; rw [setRowG_fold])
  rw [← HV.out]
  (try rw [← HXG11.out])
  clear HV HXG11
  go_wp2_with (first | (refine loadHb _ (.tmp 3) g3 x h G3.out rfl rfl rfl ?_) | (refine loadHb _ (.tmp 9) g9 x1 (raiseH h p) G9.out rfl rfl rfl ?_) | (refine loadHb _ (.tmp 11) g11 x2 h G11.out rfl rfl rfl ?_))
  refine (C3.out _ HB.out R0.out R1.out).mono ?_
  rintro e w7 ⟨⟨x3, A3, c3, rfl, k3, -, -, -⟩, hb⟩
  have nHB := Lib.hid (belG HB.out hb HB.out.size)
  have nR0 := Lib.hid ((R0.out.below hb (Nat.le_refl _)).more hb.size)
  have nR1 := Lib.hid ((R1.out.below hb (Nat.le_refl _)).more hb.size)
  have nR2 := Lib.hid ((R2.out.below hb (Nat.le_refl _)).more hb.size)
  have nR3 := Lib.hid ((R3.out.below hb (Nat.le_refl _)).more hb.size)
  have nG3 := Lib.hid (oldG G3.out hb (Nat.le_refl _))
  have nG9 := Lib.hid (oldG G9.out hb (Nat.le_refl _))
  have nG11 := Lib.hid (oldG G11.out hb (Nat.le_refl _))
  clear hb
  clear HB R0 R1 R2 R3 G3 G9 G11
  have HB := nHB
  have R0 := nR0
  have R1 := nR1
  have R2 := nR2
  have R3 := nR3
  have G3 := nG3
  have G9 := nG9
  have G11 := nG11
  clear nHB nR0 nR1 nR2 nR3 nG3 nG9 nG11
  have R4 := Lib.hid k3
  clear k3
  have LB := Lib.hid HB.out.size
  have LTG3 := Lib.hid (show g3 < w7.heap.size from (Array.getElem?_eq_some_iff.1 G3.out).1)
  have LTG9 := Lib.hid (show g9 < w7.heap.size from (Array.getElem?_eq_some_iff.1 G9.out).1)
  have LTG11 := Lib.hid (show g11 < w7.heap.size from (Array.getElem?_eq_some_iff.1 G11.out).1)
  obtain ⟨V7, hV7⟩ : ∃ V, V = w7.alloc (.cells (hubC x3 h) 29) := ⟨_, rfl⟩
  have ha := (Below.refl w7.heap.size w7).alloc (Nat.le_refl _) (.cells (hubC x3 h) 29)
  have hg := heap_alloc_new w7 (.cells (hubC x3 h) 29)
  have nHB := Lib.hid (HB.out.alloc HB.out.size (.cells (hubC x3 h) 29))
  rw [← hV7] at ha hg nHB
  have nR0 := Lib.hid ((R0.out.below ha (Nat.le_refl _)).more ha.size)
  have nR1 := Lib.hid ((R1.out.below ha (Nat.le_refl _)).more ha.size)
  have nR2 := Lib.hid ((R2.out.below ha (Nat.le_refl _)).more ha.size)
  have nR3 := Lib.hid ((R3.out.below ha (Nat.le_refl _)).more ha.size)
  have nR4 := Lib.hid ((R4.out.below ha (Nat.le_refl _)).more ha.size)
  have nG3 := Lib.hid (oldG G3.out ha (Nat.le_refl _))
  have nG9 := Lib.hid (oldG G9.out ha (Nat.le_refl _))
  have nG11 := Lib.hid (oldG G11.out ha (Nat.le_refl _))
  obtain ⟨g13, hg13⟩ : ∃ g, g = w7.heap.size := ⟨_, rfl⟩
  rw [← hg13] at hg
  have HXG13 := Lib.hid hg13
  have G13 := Lib.hid hg
  have HV := Lib.hid hV7
  clear ha hg hV7 hg13
  clear HB R0 R1 R2 R3 R4 G3 G9 G11
  have HB := nHB
  have R0 := nR0
  have R1 := nR1
  have R2 := nR2
  have R3 := nR3
  have R4 := nR4
  have G3 := nG3
  have G9 := nG9
  have G11 := nG11
  clear nHB nR0 nR1 nR2 nR3 nR4 nG3 nG9 nG11
  have LEG13 := Lib.hid (show W.heap.size ≤ g13 from by rw [HXG13.out]; exact LB.out)
  have NEG3G13 := Lib.hid (show g3 ≠ g13 from by have h1 := LTG3.out; rw [HXG13.out]; omega)
  have NEG13G3 := Lib.hid (NEG3G13.out.symm)
  have NEG9G13 := Lib.hid (show g9 ≠ g13 from by have h1 := LTG9.out; rw [HXG13.out]; omega)
  have NEG13G9 := Lib.hid (NEG9G13.out.symm)
  have NEG11G13 := Lib.hid (show g11 ≠ g13 from by have h1 := LTG11.out; rw [HXG13.out]; omega)
  have NEG13G11 := Lib.hid (NEG11G13.out.symm)
  clear LB LTG3 LTG9 LTG11
  go_upto_region 12 with (refine storeHb _ (.tmp 13) (.tmp 59) _ x3 h _ (heap_alloc_new _ _) rfl rfl rfl rfl rfl ?_; rw [setRowG_fold])
  rw [← HV.out]
  (try rw [← HXG13.out])
  clear HV HXG13
  go_wp2_with (first | (refine loadHb _ (.tmp 3) g3 x h G3.out rfl rfl rfl ?_) | (refine loadHb _ (.tmp 9) g9 x1 (raiseH h p) G9.out rfl rfl rfl ?_) | (refine loadHb _ (.tmp 11) g11 x2 h G11.out rfl rfl rfl ?_) | (refine loadHb _ (.tmp 13) g13 x3 h G13.out rfl rfl rfl ?_))
  refine (Z1.out x1 _ R2.out).mono ?_
  rintro e w8 ⟨rfl, hb⟩
  have nHB := Lib.hid (belG HB.out hb HB.out.size)
  have nR0 := Lib.hid ((R0.out.below hb (Nat.le_refl _)).more hb.size)
  have nR1 := Lib.hid ((R1.out.below hb (Nat.le_refl _)).more hb.size)
  have nR2 := Lib.hid ((R2.out.below hb (Nat.le_refl _)).more hb.size)
  have nR3 := Lib.hid ((R3.out.below hb (Nat.le_refl _)).more hb.size)
  have nR4 := Lib.hid ((R4.out.below hb (Nat.le_refl _)).more hb.size)
  have nG3 := Lib.hid (oldG G3.out hb (Nat.le_refl _))
  have nG9 := Lib.hid (oldG G9.out hb (Nat.le_refl _))
  have nG11 := Lib.hid (oldG G11.out hb (Nat.le_refl _))
  have nG13 := Lib.hid (oldG G13.out hb (Nat.le_refl _))
  clear hb
  clear HB R0 R1 R2 R3 R4 G3 G9 G11 G13
  have HB := nHB
  have R0 := nR0
  have R1 := nR1
  have R2 := nR2
  have R3 := nR3
  have R4 := nR4
  have G3 := nG3
  have G9 := nG9
  have G11 := nG11
  have G13 := nG13
  clear nHB nR0 nR1 nR2 nR3 nR4 nG3 nG9 nG11 nG13
  go_wp2_with (first | (refine loadHb _ (.tmp 3) g3 x h G3.out rfl rfl rfl ?_) | (refine loadHb _ (.tmp 9) g9 x1 (raiseH h p) G9.out rfl rfl rfl ?_) | (refine loadHb _ (.tmp 11) g11 x2 h G11.out rfl rfl rfl ?_) | (refine loadHb _ (.tmp 13) g13 x3 h G13.out rfl rfl rfl ?_))
  refine (Z2.out x2 _ R3.out).mono ?_
  rintro e w9 ⟨rfl, hb⟩
  have nHB := Lib.hid (belG HB.out hb HB.out.size)
  have nR0 := Lib.hid ((R0.out.below hb (Nat.le_refl _)).more hb.size)
  have nR1 := Lib.hid ((R1.out.below hb (Nat.le_refl _)).more hb.size)
  have nR2 := Lib.hid ((R2.out.below hb (Nat.le_refl _)).more hb.size)
  have nR3 := Lib.hid ((R3.out.below hb (Nat.le_refl _)).more hb.size)
  have nR4 := Lib.hid ((R4.out.below hb (Nat.le_refl _)).more hb.size)
  have nG3 := Lib.hid (oldG G3.out hb (Nat.le_refl _))
  have nG9 := Lib.hid (oldG G9.out hb (Nat.le_refl _))
  have nG11 := Lib.hid (oldG G11.out hb (Nat.le_refl _))
  have nG13 := Lib.hid (oldG G13.out hb (Nat.le_refl _))
  clear hb
  clear HB R0 R1 R2 R3 R4 G3 G9 G11 G13
  have HB := nHB
  have R0 := nR0
  have R1 := nR1
  have R2 := nR2
  have R3 := nR3
  have R4 := nR4
  have G3 := nG3
  have G9 := nG9
  have G11 := nG11
  have G13 := nG13
  clear nHB nR0 nR1 nR2 nR3 nR4 nG3 nG9 nG11 nG13
  go_wp2_with (first | (refine loadHb _ (.tmp 3) g3 x h G3.out rfl rfl rfl ?_) | (refine loadHb _ (.tmp 9) g9 x1 (raiseH h p) G9.out rfl rfl rfl ?_) | (refine loadHb _ (.tmp 11) g11 x2 h G11.out rfl rfl rfl ?_) | (refine loadHb _ (.tmp 13) g13 x3 h G13.out rfl rfl rfl ?_))
  refine (Z3.out x3 _ R4.out).mono ?_
  rintro e w10 ⟨rfl, hb⟩
  have nHB := Lib.hid (belG HB.out hb HB.out.size)
  have nR0 := Lib.hid ((R0.out.below hb (Nat.le_refl _)).more hb.size)
  have nR1 := Lib.hid ((R1.out.below hb (Nat.le_refl _)).more hb.size)
  have nR2 := Lib.hid ((R2.out.below hb (Nat.le_refl _)).more hb.size)
  have nR3 := Lib.hid ((R3.out.below hb (Nat.le_refl _)).more hb.size)
  have nR4 := Lib.hid ((R4.out.below hb (Nat.le_refl _)).more hb.size)
  have nG3 := Lib.hid (oldG G3.out hb (Nat.le_refl _))
  have nG9 := Lib.hid (oldG G9.out hb (Nat.le_refl _))
  have nG11 := Lib.hid (oldG G11.out hb (Nat.le_refl _))
  have nG13 := Lib.hid (oldG G13.out hb (Nat.le_refl _))
  clear hb
  clear HB R0 R1 R2 R3 R4 G3 G9 G11 G13
  have HB := nHB
  have R0 := nR0
  have R1 := nR1
  have R2 := nR2
  have R3 := nR3
  have R4 := nR4
  have G3 := nG3
  have G9 := nG9
  have G11 := nG11
  have G13 := nG13
  clear nHB nR0 nR1 nR2 nR3 nR4 nG3 nG9 nG11 nG13
  go_wp2_with (first | (refine loadHb _ (.tmp 3) g3 x h G3.out rfl rfl rfl ?_) | (refine loadHb _ (.tmp 9) g9 x1 (raiseH h p) G9.out rfl rfl rfl ?_) | (refine loadHb _ (.tmp 11) g11 x2 h G11.out rfl rfl rfl ?_) | (refine loadHb _ (.tmp 13) g13 x3 h G13.out rfl rfl rfl ?_))
  refine (HSH.out x2 x _ R3.out R0.out).mono ?_
  rintro e w11 ⟨rfl, hb⟩
  have nHB := Lib.hid (belG HB.out hb HB.out.size)
  have nR0 := Lib.hid ((R0.out.below hb (Nat.le_refl _)).more hb.size)
  have nR1 := Lib.hid ((R1.out.below hb (Nat.le_refl _)).more hb.size)
  have nR2 := Lib.hid ((R2.out.below hb (Nat.le_refl _)).more hb.size)
  have nR3 := Lib.hid ((R3.out.below hb (Nat.le_refl _)).more hb.size)
  have nR4 := Lib.hid ((R4.out.below hb (Nat.le_refl _)).more hb.size)
  have nG3 := Lib.hid (oldG G3.out hb (Nat.le_refl _))
  have nG9 := Lib.hid (oldG G9.out hb (Nat.le_refl _))
  have nG11 := Lib.hid (oldG G11.out hb (Nat.le_refl _))
  have nG13 := Lib.hid (oldG G13.out hb (Nat.le_refl _))
  clear hb
  clear HB R0 R1 R2 R3 R4 G3 G9 G11 G13
  have HB := nHB
  have R0 := nR0
  have R1 := nR1
  have R2 := nR2
  have R3 := nR3
  have R4 := nR4
  have G3 := nG3
  have G9 := nG9
  have G11 := nG11
  have G13 := nG13
  clear nHB nR0 nR1 nR2 nR3 nR4 nG3 nG9 nG11 nG13
  go_wp2_with (first | (refine loadHb _ (.tmp 3) g3 x h G3.out rfl rfl rfl ?_) | (refine loadHb _ (.tmp 9) g9 x1 (raiseH h p) G9.out rfl rfl rfl ?_) | (refine loadHb _ (.tmp 11) g11 x2 h G11.out rfl rfl rfl ?_) | (refine loadHb _ (.tmp 13) g13 x3 h G13.out rfl rfl rfl ?_))
  refine (HSH.out x3 x _ R4.out R0.out).mono ?_
  rintro e w12 ⟨rfl, hb⟩
  have nHB := Lib.hid (belG HB.out hb HB.out.size)
  have nR0 := Lib.hid ((R0.out.below hb (Nat.le_refl _)).more hb.size)
  have nR1 := Lib.hid ((R1.out.below hb (Nat.le_refl _)).more hb.size)
  have nR2 := Lib.hid ((R2.out.below hb (Nat.le_refl _)).more hb.size)
  have nR3 := Lib.hid ((R3.out.below hb (Nat.le_refl _)).more hb.size)
  have nR4 := Lib.hid ((R4.out.below hb (Nat.le_refl _)).more hb.size)
  have nG3 := Lib.hid (oldG G3.out hb (Nat.le_refl _))
  have nG9 := Lib.hid (oldG G9.out hb (Nat.le_refl _))
  have nG11 := Lib.hid (oldG G11.out hb (Nat.le_refl _))
  have nG13 := Lib.hid (oldG G13.out hb (Nat.le_refl _))
  clear hb
  clear HB R0 R1 R2 R3 R4 G3 G9 G11 G13
  have HB := nHB
  have R0 := nR0
  have R1 := nR1
  have R2 := nR2
  have R3 := nR3
  have R4 := nR4
  have G3 := nG3
  have G9 := nG9
  have G11 := nG11
  have G13 := nG13
  clear nHB nR0 nR1 nR2 nR3 nR4 nG3 nG9 nG11 nG13
  have y0 := BoxH.cell G3.out HUQ.out
  go_wp2_with fail
  go_ret
  exact ⟨by first | rfl | simp, HB.out⟩
end Go.Proofs.Ytplekllhnpljiaa
