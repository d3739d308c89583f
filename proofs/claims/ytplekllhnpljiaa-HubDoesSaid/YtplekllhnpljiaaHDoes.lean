
/- HubDoes' walk. -/
import Derived.Test.YtplekllhnpljiaaJ29
namespace Go.Proofs.Ytplekllhnpljiaa
open Go.RowKit

set_option maxRecDepth 100000 in
set_option maxHeartbeats 4000000 in
theorem hubDoes_walk (x : Wh) (h : Hb) (c : Int) (B : Option Addr) (v : List UInt8) (d : Nat) (W : World) (hl : Hb64 h) (hr : HubR W x h) (hc : B64 c) (hd : v.length ≤ d) (hdm : d ≤ 9223372036854775807) (hs : Rd W W.heap.size B v) :
    Calls Try.prog 4 #[.agg (hubC x h), .int .i64 c, .slice B v.length d] W fun e W' => e = .returned (.bool true) ∧ Below W.heap.size W W' := by
  have R0 := Lib.hid hr
  have R1 := Lib.hid hs
  have HL := Lib.hid hl
  have CF := Lib.hid (fun w => refFew_any x h w)
  have CR := Lib.hid (fun w (hB : Below W.heap.size W w) (k : HubR w x h) => refRight9_any x h w k)
  by_cases h1 : fewH h
  case neg =>
    rw [decide_eq_false h1] at CF
    clear hl hr hc hd hdm hs
    generalize v.length = n at *
    obtain ⟨V0, C, hC, hV, hb, hg⟩ := boxH1 W x h
    have HB := Lib.hid hb
    have G0 := Lib.hid hg
    have nR0 := Lib.hid ((R0.out.below hb (Nat.le_refl _)).more hb.size)
    have nR1 := Lib.hid ((R1.out.below hb (Nat.le_refl _)).more hb.size)
    have HV := Lib.hid hV
    rw [← hC]
    clear hb hg hV hC
    clear R0 R1
    have R0 := nR0
    have R1 := nR1
    clear nR0 nR1
    go_enter Try.func4, Try.ntmps4
    go_upto_region 1 with (fail)
    rw [← HV.out]
    clear HV
    go_wp2_with fail
    refine (shown9_any _).mono ?_
    rintro e w1 ⟨rfl, hb⟩
    have nHB := Lib.hid (belG HB.out hb HB.out.size)
    have nR0 := Lib.hid ((R0.out.below hb (Nat.le_refl _)).more hb.size)
    have nR1 := Lib.hid ((R1.out.below hb (Nat.le_refl _)).more hb.size)
    have nG0 := Lib.hid (oldG G0.out hb (Nat.le_refl _))
    clear hb
    clear HB R0 R1 G0
    have HB := nHB
    have R0 := nR0
    have R1 := nR1
    have G0 := nG0
    clear nHB nR0 nR1 nG0
    go_wp2_with (first | (refine loadHb _ (.tmp 3) W.heap.size x h G0.out rfl rfl rfl ?_))
    refine (CF.out _).mono ?_
    rintro e w2 ⟨rfl, hb⟩
    have nHB := Lib.hid (belG HB.out hb HB.out.size)
    have nR0 := Lib.hid ((R0.out.below hb (Nat.le_refl _)).more hb.size)
    have nR1 := Lib.hid ((R1.out.below hb (Nat.le_refl _)).more hb.size)
    have nG0 := Lib.hid (oldG G0.out hb (Nat.le_refl _))
    clear hb
    clear HB R0 R1 G0
    have HB := nHB
    have R0 := nR0
    have R1 := nR1
    have G0 := nG0
    clear nHB nR0 nR1 nG0
    go_wp2_with (first | (refine loadHb _ (.tmp 3) W.heap.size x h G0.out rfl rfl rfl ?_))
    go_ret
    exact ⟨rfl, HB.out⟩
  rw [decide_eq_true h1] at CF
  by_cases hR : RightHb h
  case neg =>
    rw [decide_eq_false hR] at CR
    clear hl hr hc hd hdm hs
    generalize v.length = n at *
    obtain ⟨V0, C, hC, hV, hb, hg⟩ := boxH1 W x h
    have HB := Lib.hid hb
    have G0 := Lib.hid hg
    have nR0 := Lib.hid ((R0.out.below hb (Nat.le_refl _)).more hb.size)
    have nR1 := Lib.hid ((R1.out.below hb (Nat.le_refl _)).more hb.size)
    have HV := Lib.hid hV
    rw [← hC]
    clear hb hg hV hC
    clear R0 R1
    have R0 := nR0
    have R1 := nR1
    clear nR0 nR1
    go_enter Try.func4, Try.ntmps4
    go_upto_region 1 with (fail)
    rw [← HV.out]
    clear HV
    go_wp2_with fail
    refine (shown9_any _).mono ?_
    rintro e w1 ⟨rfl, hb⟩
    have nHB := Lib.hid (belG HB.out hb HB.out.size)
    have nR0 := Lib.hid ((R0.out.below hb (Nat.le_refl _)).more hb.size)
    have nR1 := Lib.hid ((R1.out.below hb (Nat.le_refl _)).more hb.size)
    have nG0 := Lib.hid (oldG G0.out hb (Nat.le_refl _))
    clear hb
    clear HB R0 R1 G0
    have HB := nHB
    have R0 := nR0
    have R1 := nR1
    have G0 := nG0
    clear nHB nR0 nR1 nG0
    go_wp2_with (first | (refine loadHb _ (.tmp 3) W.heap.size x h G0.out rfl rfl rfl ?_))
    refine (CF.out _).mono ?_
    rintro e w2 ⟨rfl, hb⟩
    have nHB := Lib.hid (belG HB.out hb HB.out.size)
    have nR0 := Lib.hid ((R0.out.below hb (Nat.le_refl _)).more hb.size)
    have nR1 := Lib.hid ((R1.out.below hb (Nat.le_refl _)).more hb.size)
    have nG0 := Lib.hid (oldG G0.out hb (Nat.le_refl _))
    clear hb
    clear HB R0 R1 G0
    have HB := nHB
    have R0 := nR0
    have R1 := nR1
    have G0 := nG0
    clear nHB nR0 nR1 nG0
    go_wp2_with (first | (refine loadHb _ (.tmp 3) W.heap.size x h G0.out rfl rfl rfl ?_))
    refine (CR.out _ HB.out R0.out).mono ?_
    rintro e w3 ⟨rfl, hb⟩
    have nHB := Lib.hid (belG HB.out hb HB.out.size)
    have nR0 := Lib.hid ((R0.out.below hb (Nat.le_refl _)).more hb.size)
    have nR1 := Lib.hid ((R1.out.below hb (Nat.le_refl _)).more hb.size)
    have nG0 := Lib.hid (oldG G0.out hb (Nat.le_refl _))
    clear hb
    clear HB R0 R1 G0
    have HB := nHB
    have R0 := nR0
    have R1 := nR1
    have G0 := nG0
    clear nHB nR0 nR1 nG0
    go_wp2_with (first | (refine loadHb _ (.tmp 3) W.heap.size x h G0.out rfl rfl rfl ?_))
    go_ret
    exact ⟨rfl, HB.out⟩
  rw [decide_eq_true hR] at CR
  by_cases h2 : 2000 < v.length
  case pos =>
    have i0 : (2000 : Int) < (v.length : Int) := by omega
    clear hl hr hc hd hdm hs
    generalize v.length = n at *
    obtain ⟨V0, C, hC, hV, hb, hg⟩ := boxH1 W x h
    have HB := Lib.hid hb
    have G0 := Lib.hid hg
    have nR0 := Lib.hid ((R0.out.below hb (Nat.le_refl _)).more hb.size)
    have nR1 := Lib.hid ((R1.out.below hb (Nat.le_refl _)).more hb.size)
    have HV := Lib.hid hV
    rw [← hC]
    clear hb hg hV hC
    clear R0 R1
    have R0 := nR0
    have R1 := nR1
    clear nR0 nR1
    go_enter Try.func4, Try.ntmps4
    go_upto_region 1 with (fail)
    rw [← HV.out]
    clear HV
    go_wp2_with fail
    refine (shown9_any _).mono ?_
    rintro e w1 ⟨rfl, hb⟩
    have nHB := Lib.hid (belG HB.out hb HB.out.size)
    have nR0 := Lib.hid ((R0.out.below hb (Nat.le_refl _)).more hb.size)
    have nR1 := Lib.hid ((R1.out.below hb (Nat.le_refl _)).more hb.size)
    have nG0 := Lib.hid (oldG G0.out hb (Nat.le_refl _))
    clear hb
    clear HB R0 R1 G0
    have HB := nHB
    have R0 := nR0
    have R1 := nR1
    have G0 := nG0
    clear nHB nR0 nR1 nG0
    go_wp2_with (first | (refine loadHb _ (.tmp 3) W.heap.size x h G0.out rfl rfl rfl ?_))
    refine (CF.out _).mono ?_
    rintro e w2 ⟨rfl, hb⟩
    have nHB := Lib.hid (belG HB.out hb HB.out.size)
    have nR0 := Lib.hid ((R0.out.below hb (Nat.le_refl _)).more hb.size)
    have nR1 := Lib.hid ((R1.out.below hb (Nat.le_refl _)).more hb.size)
    have nG0 := Lib.hid (oldG G0.out hb (Nat.le_refl _))
    clear hb
    clear HB R0 R1 G0
    have HB := nHB
    have R0 := nR0
    have R1 := nR1
    have G0 := nG0
    clear nHB nR0 nR1 nG0
    go_wp2_with (first | (refine loadHb _ (.tmp 3) W.heap.size x h G0.out rfl rfl rfl ?_))
    refine (CR.out _ HB.out R0.out).mono ?_
    rintro e w3 ⟨rfl, hb⟩
    have nHB := Lib.hid (belG HB.out hb HB.out.size)
    have nR0 := Lib.hid ((R0.out.below hb (Nat.le_refl _)).more hb.size)
    have nR1 := Lib.hid ((R1.out.below hb (Nat.le_refl _)).more hb.size)
    have nG0 := Lib.hid (oldG G0.out hb (Nat.le_refl _))
    clear hb
    clear HB R0 R1 G0
    have HB := nHB
    have R0 := nR0
    have R1 := nR1
    have G0 := nG0
    clear nHB nR0 nR1 nG0
    go_wp2_with (first | (refine loadHb _ (.tmp 3) W.heap.size x h G0.out rfl rfl rfl ?_))
    go_ret
    exact ⟨rfl, HB.out⟩
  have i0 : ¬ (2000 : Int) < (v.length : Int) := by omega
  have C1 := Lib.hid (fun w (hB : Below W.heap.size W w) (k : HubR w x h) => hRaise_any x h c w hR HL.out k hc)
  have C2 := Lib.hid (fun w (hB : Below W.heap.size W w) (k : HubR w x h) => refRaise_any x h c w k HL.out)
  have C3 := Lib.hid (fun w (hB : Below W.heap.size W w) (k : HubR w x h) => hCut_any x h c w hR HL.out k hc)
  have C4 := Lib.hid (fun w (hB : Below W.heap.size W w) (k : HubR w x h) => refCut_any x h c w k)
  have C5 := Lib.hid (fun w (hB : Below W.heap.size W w) (k : HubR w x h) (k2 : Rd w w.heap.size B v) => hPush_any x h c B v d w hR HL.out k hc (by omega) hd hdm k2)
  have C6 := Lib.hid (fun w (hB : Below W.heap.size W w) (k : HubR w x h) (k2 : Rd w w.heap.size B v) => refPush9_any x h c B v d w k hR (by omega) k2)
  have hrows : (pushR h c v).2.1.length ≤ 100000 := by
    unfold pushR
    split
    · split
      · have := push_len v (h.fd c.toNat); simp only; omega
      · simp
    · simp
  obtain ⟨E1, hE1⟩ : ∃ E, E = raiseR h c := ⟨_, rfl⟩
  obtain ⟨E2, hE2⟩ : ∃ E, E = cutR h c := ⟨_, rfl⟩
  obtain ⟨E3, hE3⟩ : ∃ E, E = pushR h c v := ⟨_, rfl⟩
  rw [← hE1] at C1 C2
  rw [← hE2] at C3 C4
  rw [← hE3] at C5 C6 hrows
  have CZ1 := Lib.hid (fun (x1 x2 : Wh) w (k1 : HubR w x1 E1.1) (k2 : HubR w x2 E1.1) => refSame9_any x1 x2 E1.1 E1.1 w k1 k2)
  simp only [decide_eq_true (SameHb.refl E1.1)] at CZ1
  have CZ2 := Lib.hid (fun (x1 x2 : Wh) w (k1 : HubR w x1 E2.1) (k2 : HubR w x2 E2.1) => refSame9_any x1 x2 E2.1 E2.1 w k1 k2)
  simp only [decide_eq_true (SameHb.refl E2.1)] at CZ2
  have CZ3 := Lib.hid (fun (x1 x2 : Wh) w (k1 : HubR w x1 E3.1) (k2 : HubR w x2 E3.1) => refSame9_any x1 x2 E3.1 E3.1 w k1 k2)
  simp only [decide_eq_true (SameHb.refl E3.1)] at CZ3
  have CM := Lib.hid (fun (A1 A2 : Option Addr) (c1 c2 : Nat) w (k1 : Mat w w.heap.size A1 E3.2.1) (k2 : Mat w w.heap.size A2 E3.2.1) => rows2_any A1 A2 E3.2.1 E3.2.1 c1 c2 w k1 k2 hrows hrows)
  simp only [decide_true] at CM
  unfold AnsHb at C1 C2 C3 C4
  unfold AnsPu at C5 C6
  clear hl hr hc hd hdm hs hE1 hE2 hE3 hrows hR h1 h2
  generalize E1.2 = e1 at *
  generalize E2.2 = e2 at *
  generalize E3.2.2 = e3 at *
  generalize E3.2.1.length = nr at *
  have f1 : (e1 == e1) = true := by simp
  have f2 : (e2 == e2) = true := by simp
  have f3 : (e3 == e3) = true := by simp
  generalize v.length = n at *
  obtain ⟨V0, C, hC, hV, hb, hg⟩ := boxH1 W x h
  have HB := Lib.hid hb
  have G0 := Lib.hid hg
  have nR0 := Lib.hid ((R0.out.below hb (Nat.le_refl _)).more hb.size)
  have nR1 := Lib.hid ((R1.out.below hb (Nat.le_refl _)).more hb.size)
  have HV := Lib.hid hV
  rw [← hC]
  clear hb hg hV hC
  clear R0 R1
  have R0 := nR0
  have R1 := nR1
  clear nR0 nR1
  go_enter Try.func4, Try.ntmps4
  go_upto_region 1 with (fail)
  rw [← HV.out]
  clear HV
  go_wp2_with fail
  refine (shown9_any _).mono ?_
  rintro e w1 ⟨rfl, hb⟩
  have nHB := Lib.hid (belG HB.out hb HB.out.size)
  have nR0 := Lib.hid ((R0.out.below hb (Nat.le_refl _)).more hb.size)
  have nR1 := Lib.hid ((R1.out.below hb (Nat.le_refl _)).more hb.size)
  have nG0 := Lib.hid (oldG G0.out hb (Nat.le_refl _))
  clear hb
  clear HB R0 R1 G0
  have HB := nHB
  have R0 := nR0
  have R1 := nR1
  have G0 := nG0
  clear nHB nR0 nR1 nG0
  go_wp2_with (first | (refine loadHb _ (.tmp 3) W.heap.size x h G0.out rfl rfl rfl ?_))
  refine (CF.out _).mono ?_
  rintro e w2 ⟨rfl, hb⟩
  have nHB := Lib.hid (belG HB.out hb HB.out.size)
  have nR0 := Lib.hid ((R0.out.below hb (Nat.le_refl _)).more hb.size)
  have nR1 := Lib.hid ((R1.out.below hb (Nat.le_refl _)).more hb.size)
  have nG0 := Lib.hid (oldG G0.out hb (Nat.le_refl _))
  clear hb
  clear HB R0 R1 G0
  have HB := nHB
  have R0 := nR0
  have R1 := nR1
  have G0 := nG0
  clear nHB nR0 nR1 nG0
  go_wp2_with (first | (refine loadHb _ (.tmp 3) W.heap.size x h G0.out rfl rfl rfl ?_))
  refine (CR.out _ HB.out R0.out).mono ?_
  rintro e w3 ⟨rfl, hb⟩
  have nHB := Lib.hid (belG HB.out hb HB.out.size)
  have nR0 := Lib.hid ((R0.out.below hb (Nat.le_refl _)).more hb.size)
  have nR1 := Lib.hid ((R1.out.below hb (Nat.le_refl _)).more hb.size)
  have nG0 := Lib.hid (oldG G0.out hb (Nat.le_refl _))
  clear hb
  clear HB R0 R1 G0
  have HB := nHB
  have R0 := nR0
  have R1 := nR1
  have G0 := nG0
  clear nHB nR0 nR1 nG0
  go_wp2_with (first | (refine loadHb _ (.tmp 3) W.heap.size x h G0.out rfl rfl rfl ?_))
  refine (C1.out _ HB.out R0.out).mono ?_
  rintro e w4 ⟨⟨x1, rfl, k1⟩, hb⟩
  have nHB := Lib.hid (belG HB.out hb HB.out.size)
  have nR0 := Lib.hid ((R0.out.below hb (Nat.le_refl _)).more hb.size)
  have nR1 := Lib.hid ((R1.out.below hb (Nat.le_refl _)).more hb.size)
  have nG0 := Lib.hid (oldG G0.out hb (Nat.le_refl _))
  clear hb
  clear HB R0 R1 G0
  have HB := nHB
  have R0 := nR0
  have R1 := nR1
  have G0 := nG0
  clear nHB nR0 nR1 nG0
  have R2 := Lib.hid k1
  clear k1
  have LB := Lib.hid HB.out.size
  have LTG0 := Lib.hid (show W.heap.size < w4.heap.size from (Array.getElem?_eq_some_iff.1 G0.out).1)
  obtain ⟨V4, hV4⟩ : ∃ V, V = w4.alloc (.cells (hubC x1 E1.1) 29) := ⟨_, rfl⟩
  have ha := (Below.refl w4.heap.size w4).alloc (Nat.le_refl _) (.cells (hubC x1 E1.1) 29)
  have hg := heap_alloc_new w4 (.cells (hubC x1 E1.1) 29)
  have nHB := Lib.hid (HB.out.alloc HB.out.size (.cells (hubC x1 E1.1) 29))
  rw [← hV4] at ha hg nHB
  have nR0 := Lib.hid ((R0.out.below ha (Nat.le_refl _)).more ha.size)
  have nR1 := Lib.hid ((R1.out.below ha (Nat.le_refl _)).more ha.size)
  have nR2 := Lib.hid ((R2.out.below ha (Nat.le_refl _)).more ha.size)
  have nG0 := Lib.hid (oldG G0.out ha (Nat.le_refl _))
  obtain ⟨g1, hg1⟩ : ∃ g, g = w4.heap.size := ⟨_, rfl⟩
  rw [← hg1] at hg
  have HXG1 := Lib.hid hg1
  have G1 := Lib.hid hg
  have HV := Lib.hid hV4
  clear ha hg hV4 hg1
  clear HB R0 R1 R2 G0
  have HB := nHB
  have R0 := nR0
  have R1 := nR1
  have R2 := nR2
  have G0 := nG0
  clear nHB nR0 nR1 nR2 nG0
  have LEG1 := Lib.hid (show W.heap.size ≤ g1 from by rw [HXG1.out]; exact LB.out)
  have NEG0G1 := Lib.hid (show W.heap.size ≠ g1 from by have h1 := LTG0.out; rw [HXG1.out]; omega)
  have NEG1G0 := Lib.hid (NEG0G1.out.symm)
  clear LB LTG0
  go_upto_region 5 with (refine storeHb _ (.tmp 8) (.tmp 41) _ x1 E1.1 _ (heap_alloc_new _ _) rfl rfl rfl rfl rfl ?_; rw [setRowG_fold])
  rw [← HV.out]
  (try rw [← HXG1.out])
  clear HV HXG1
  go_wp2_with (first | (refine loadHb _ (.tmp 3) W.heap.size x h G0.out rfl rfl rfl ?_) | (refine loadHb _ (.tmp 8) g1 x1 E1.1 G1.out rfl rfl rfl ?_))
  refine (C2.out _ HB.out R0.out).mono ?_
  rintro e w5 ⟨⟨x2, rfl, k2⟩, hb⟩
  have nHB := Lib.hid (belG HB.out hb HB.out.size)
  have nR0 := Lib.hid ((R0.out.below hb (Nat.le_refl _)).more hb.size)
  have nR1 := Lib.hid ((R1.out.below hb (Nat.le_refl _)).more hb.size)
  have nR2 := Lib.hid ((R2.out.below hb (Nat.le_refl _)).more hb.size)
  have nG0 := Lib.hid (oldG G0.out hb (Nat.le_refl _))
  have nG1 := Lib.hid (oldG G1.out hb (Nat.le_refl _))
  clear hb
  clear HB R0 R1 R2 G0 G1
  have HB := nHB
  have R0 := nR0
  have R1 := nR1
  have R2 := nR2
  have G0 := nG0
  have G1 := nG1
  clear nHB nR0 nR1 nR2 nG0 nG1
  have R3 := Lib.hid k2
  clear k2
  have LB := Lib.hid HB.out.size
  have LTG0 := Lib.hid (show W.heap.size < w5.heap.size from (Array.getElem?_eq_some_iff.1 G0.out).1)
  have LTG1 := Lib.hid (show g1 < w5.heap.size from (Array.getElem?_eq_some_iff.1 G1.out).1)
  obtain ⟨V5, hV5⟩ : ∃ V, V = w5.alloc (.cells (hubC x2 E1.1) 29) := ⟨_, rfl⟩
  have ha := (Below.refl w5.heap.size w5).alloc (Nat.le_refl _) (.cells (hubC x2 E1.1) 29)
  have hg := heap_alloc_new w5 (.cells (hubC x2 E1.1) 29)
  have nHB := Lib.hid (HB.out.alloc HB.out.size (.cells (hubC x2 E1.1) 29))
  rw [← hV5] at ha hg nHB
  have nR0 := Lib.hid ((R0.out.below ha (Nat.le_refl _)).more ha.size)
  have nR1 := Lib.hid ((R1.out.below ha (Nat.le_refl _)).more ha.size)
  have nR2 := Lib.hid ((R2.out.below ha (Nat.le_refl _)).more ha.size)
  have nR3 := Lib.hid ((R3.out.below ha (Nat.le_refl _)).more ha.size)
  have nG0 := Lib.hid (oldG G0.out ha (Nat.le_refl _))
  have nG1 := Lib.hid (oldG G1.out ha (Nat.le_refl _))
  obtain ⟨g2, hg2⟩ : ∃ g, g = w5.heap.size := ⟨_, rfl⟩
  rw [← hg2] at hg
  have HXG2 := Lib.hid hg2
  have G2 := Lib.hid hg
  have HV := Lib.hid hV5
  clear ha hg hV5 hg2
  clear HB R0 R1 R2 R3 G0 G1
  have HB := nHB
  have R0 := nR0
  have R1 := nR1
  have R2 := nR2
  have R3 := nR3
  have G0 := nG0
  have G1 := nG1
  clear nHB nR0 nR1 nR2 nR3 nG0 nG1
  have LEG2 := Lib.hid (show W.heap.size ≤ g2 from by rw [HXG2.out]; exact LB.out)
  have NEG0G2 := Lib.hid (show W.heap.size ≠ g2 from by have h1 := LTG0.out; rw [HXG2.out]; omega)
  have NEG2G0 := Lib.hid (NEG0G2.out.symm)
  have NEG1G2 := Lib.hid (show g1 ≠ g2 from by have h1 := LTG1.out; rw [HXG2.out]; omega)
  have NEG2G1 := Lib.hid (NEG1G2.out.symm)
  clear LB LTG0 LTG1
  go_upto_region 6 with (refine storeHb _ (.tmp 10) (.tmp 47) _ x2 E1.1 _ (heap_alloc_new _ _) rfl rfl rfl rfl rfl ?_; rw [setRowG_fold])
  rw [← HV.out]
  (try rw [← HXG2.out])
  clear HV HXG2
  go_wp2_with (first | (refine loadHb _ (.tmp 3) W.heap.size x h G0.out rfl rfl rfl ?_) | (refine loadHb _ (.tmp 8) g1 x1 E1.1 G1.out rfl rfl rfl ?_) | (refine loadHb _ (.tmp 10) g2 x2 E1.1 G2.out rfl rfl rfl ?_))
  refine (C3.out _ HB.out R0.out).mono ?_
  rintro e w6 ⟨⟨x3, rfl, k3⟩, hb⟩
  have nHB := Lib.hid (belG HB.out hb HB.out.size)
  have nR0 := Lib.hid ((R0.out.below hb (Nat.le_refl _)).more hb.size)
  have nR1 := Lib.hid ((R1.out.below hb (Nat.le_refl _)).more hb.size)
  have nR2 := Lib.hid ((R2.out.below hb (Nat.le_refl _)).more hb.size)
  have nR3 := Lib.hid ((R3.out.below hb (Nat.le_refl _)).more hb.size)
  have nG0 := Lib.hid (oldG G0.out hb (Nat.le_refl _))
  have nG1 := Lib.hid (oldG G1.out hb (Nat.le_refl _))
  have nG2 := Lib.hid (oldG G2.out hb (Nat.le_refl _))
  clear hb
  clear HB R0 R1 R2 R3 G0 G1 G2
  have HB := nHB
  have R0 := nR0
  have R1 := nR1
  have R2 := nR2
  have R3 := nR3
  have G0 := nG0
  have G1 := nG1
  have G2 := nG2
  clear nHB nR0 nR1 nR2 nR3 nG0 nG1 nG2
  have R4 := Lib.hid k3
  clear k3
  have LB := Lib.hid HB.out.size
  have LTG0 := Lib.hid (show W.heap.size < w6.heap.size from (Array.getElem?_eq_some_iff.1 G0.out).1)
  have LTG1 := Lib.hid (show g1 < w6.heap.size from (Array.getElem?_eq_some_iff.1 G1.out).1)
  have LTG2 := Lib.hid (show g2 < w6.heap.size from (Array.getElem?_eq_some_iff.1 G2.out).1)
  obtain ⟨V6, hV6⟩ : ∃ V, V = w6.alloc (.cells (hubC x3 E2.1) 29) := ⟨_, rfl⟩
  have ha := (Below.refl w6.heap.size w6).alloc (Nat.le_refl _) (.cells (hubC x3 E2.1) 29)
  have hg := heap_alloc_new w6 (.cells (hubC x3 E2.1) 29)
  have nHB := Lib.hid (HB.out.alloc HB.out.size (.cells (hubC x3 E2.1) 29))
  rw [← hV6] at ha hg nHB
  have nR0 := Lib.hid ((R0.out.below ha (Nat.le_refl _)).more ha.size)
  have nR1 := Lib.hid ((R1.out.below ha (Nat.le_refl _)).more ha.size)
  have nR2 := Lib.hid ((R2.out.below ha (Nat.le_refl _)).more ha.size)
  have nR3 := Lib.hid ((R3.out.below ha (Nat.le_refl _)).more ha.size)
  have nR4 := Lib.hid ((R4.out.below ha (Nat.le_refl _)).more ha.size)
  have nG0 := Lib.hid (oldG G0.out ha (Nat.le_refl _))
  have nG1 := Lib.hid (oldG G1.out ha (Nat.le_refl _))
  have nG2 := Lib.hid (oldG G2.out ha (Nat.le_refl _))
  obtain ⟨g3, hg3⟩ : ∃ g, g = w6.heap.size := ⟨_, rfl⟩
  rw [← hg3] at hg
  have HXG3 := Lib.hid hg3
  have G3 := Lib.hid hg
  have HV := Lib.hid hV6
  clear ha hg hV6 hg3
  clear HB R0 R1 R2 R3 R4 G0 G1 G2
  have HB := nHB
  have R0 := nR0
  have R1 := nR1
  have R2 := nR2
  have R3 := nR3
  have R4 := nR4
  have G0 := nG0
  have G1 := nG1
  have G2 := nG2
  clear nHB nR0 nR1 nR2 nR3 nR4 nG0 nG1 nG2
  have LEG3 := Lib.hid (show W.heap.size ≤ g3 from by rw [HXG3.out]; exact LB.out)
  have NEG0G3 := Lib.hid (show W.heap.size ≠ g3 from by have h1 := LTG0.out; rw [HXG3.out]; omega)
  have NEG3G0 := Lib.hid (NEG0G3.out.symm)
  have NEG1G3 := Lib.hid (show g1 ≠ g3 from by have h1 := LTG1.out; rw [HXG3.out]; omega)
  have NEG3G1 := Lib.hid (NEG1G3.out.symm)
  have NEG2G3 := Lib.hid (show g2 ≠ g3 from by have h1 := LTG2.out; rw [HXG3.out]; omega)
  have NEG3G2 := Lib.hid (NEG2G3.out.symm)
  clear LB LTG0 LTG1 LTG2
  go_upto_region 7 with (refine storeHb _ (.tmp 12) (.tmp 53) _ x3 E2.1 _ (heap_alloc_new _ _) rfl rfl rfl rfl rfl ?_; rw [setRowG_fold])
  rw [← HV.out]
  (try rw [← HXG3.out])
  clear HV HXG3
  go_wp2_with (first | (refine loadHb _ (.tmp 3) W.heap.size x h G0.out rfl rfl rfl ?_) | (refine loadHb _ (.tmp 8) g1 x1 E1.1 G1.out rfl rfl rfl ?_) | (refine loadHb _ (.tmp 10) g2 x2 E1.1 G2.out rfl rfl rfl ?_) | (refine loadHb _ (.tmp 12) g3 x3 E2.1 G3.out rfl rfl rfl ?_))
  refine (C4.out _ HB.out R0.out).mono ?_
  rintro e w7 ⟨⟨x4, rfl, k4⟩, hb⟩
  have nHB := Lib.hid (belG HB.out hb HB.out.size)
  have nR0 := Lib.hid ((R0.out.below hb (Nat.le_refl _)).more hb.size)
  have nR1 := Lib.hid ((R1.out.below hb (Nat.le_refl _)).more hb.size)
  have nR2 := Lib.hid ((R2.out.below hb (Nat.le_refl _)).more hb.size)
  have nR3 := Lib.hid ((R3.out.below hb (Nat.le_refl _)).more hb.size)
  have nR4 := Lib.hid ((R4.out.below hb (Nat.le_refl _)).more hb.size)
  have nG0 := Lib.hid (oldG G0.out hb (Nat.le_refl _))
  have nG1 := Lib.hid (oldG G1.out hb (Nat.le_refl _))
  have nG2 := Lib.hid (oldG G2.out hb (Nat.le_refl _))
  have nG3 := Lib.hid (oldG G3.out hb (Nat.le_refl _))
  clear hb
  clear HB R0 R1 R2 R3 R4 G0 G1 G2 G3
  have HB := nHB
  have R0 := nR0
  have R1 := nR1
  have R2 := nR2
  have R3 := nR3
  have R4 := nR4
  have G0 := nG0
  have G1 := nG1
  have G2 := nG2
  have G3 := nG3
  clear nHB nR0 nR1 nR2 nR3 nR4 nG0 nG1 nG2 nG3
  have R5 := Lib.hid k4
  clear k4
  have LB := Lib.hid HB.out.size
  have LTG0 := Lib.hid (show W.heap.size < w7.heap.size from (Array.getElem?_eq_some_iff.1 G0.out).1)
  have LTG1 := Lib.hid (show g1 < w7.heap.size from (Array.getElem?_eq_some_iff.1 G1.out).1)
  have LTG2 := Lib.hid (show g2 < w7.heap.size from (Array.getElem?_eq_some_iff.1 G2.out).1)
  have LTG3 := Lib.hid (show g3 < w7.heap.size from (Array.getElem?_eq_some_iff.1 G3.out).1)
  obtain ⟨V7, hV7⟩ : ∃ V, V = w7.alloc (.cells (hubC x4 E2.1) 29) := ⟨_, rfl⟩
  have ha := (Below.refl w7.heap.size w7).alloc (Nat.le_refl _) (.cells (hubC x4 E2.1) 29)
  have hg := heap_alloc_new w7 (.cells (hubC x4 E2.1) 29)
  have nHB := Lib.hid (HB.out.alloc HB.out.size (.cells (hubC x4 E2.1) 29))
  rw [← hV7] at ha hg nHB
  have nR0 := Lib.hid ((R0.out.below ha (Nat.le_refl _)).more ha.size)
  have nR1 := Lib.hid ((R1.out.below ha (Nat.le_refl _)).more ha.size)
  have nR2 := Lib.hid ((R2.out.below ha (Nat.le_refl _)).more ha.size)
  have nR3 := Lib.hid ((R3.out.below ha (Nat.le_refl _)).more ha.size)
  have nR4 := Lib.hid ((R4.out.below ha (Nat.le_refl _)).more ha.size)
  have nR5 := Lib.hid ((R5.out.below ha (Nat.le_refl _)).more ha.size)
  have nG0 := Lib.hid (oldG G0.out ha (Nat.le_refl _))
  have nG1 := Lib.hid (oldG G1.out ha (Nat.le_refl _))
  have nG2 := Lib.hid (oldG G2.out ha (Nat.le_refl _))
  have nG3 := Lib.hid (oldG G3.out ha (Nat.le_refl _))
  obtain ⟨g4, hg4⟩ : ∃ g, g = w7.heap.size := ⟨_, rfl⟩
  rw [← hg4] at hg
  have HXG4 := Lib.hid hg4
  have G4 := Lib.hid hg
  have HV := Lib.hid hV7
  clear ha hg hV7 hg4
  clear HB R0 R1 R2 R3 R4 R5 G0 G1 G2 G3
  have HB := nHB
  have R0 := nR0
  have R1 := nR1
  have R2 := nR2
  have R3 := nR3
  have R4 := nR4
  have R5 := nR5
  have G0 := nG0
  have G1 := nG1
  have G2 := nG2
  have G3 := nG3
  clear nHB nR0 nR1 nR2 nR3 nR4 nR5 nG0 nG1 nG2 nG3
  have LEG4 := Lib.hid (show W.heap.size ≤ g4 from by rw [HXG4.out]; exact LB.out)
  have NEG0G4 := Lib.hid (show W.heap.size ≠ g4 from by have h1 := LTG0.out; rw [HXG4.out]; omega)
  have NEG4G0 := Lib.hid (NEG0G4.out.symm)
  have NEG1G4 := Lib.hid (show g1 ≠ g4 from by have h1 := LTG1.out; rw [HXG4.out]; omega)
  have NEG4G1 := Lib.hid (NEG1G4.out.symm)
  have NEG2G4 := Lib.hid (show g2 ≠ g4 from by have h1 := LTG2.out; rw [HXG4.out]; omega)
  have NEG4G2 := Lib.hid (NEG2G4.out.symm)
  have NEG3G4 := Lib.hid (show g3 ≠ g4 from by have h1 := LTG3.out; rw [HXG4.out]; omega)
  have NEG4G3 := Lib.hid (NEG3G4.out.symm)
  clear LB LTG0 LTG1 LTG2 LTG3
  go_upto_region 8 with (refine storeHb _ (.tmp 14) (.tmp 59) _ x4 E2.1 _ (heap_alloc_new _ _) rfl rfl rfl rfl rfl ?_; rw [setRowG_fold])
  rw [← HV.out]
  (try rw [← HXG4.out])
  clear HV HXG4
  go_wp2_with (first | (refine loadHb _ (.tmp 3) W.heap.size x h G0.out rfl rfl rfl ?_) | (refine loadHb _ (.tmp 8) g1 x1 E1.1 G1.out rfl rfl rfl ?_) | (refine loadHb _ (.tmp 10) g2 x2 E1.1 G2.out rfl rfl rfl ?_) | (refine loadHb _ (.tmp 12) g3 x3 E2.1 G3.out rfl rfl rfl ?_) | (refine loadHb _ (.tmp 14) g4 x4 E2.1 G4.out rfl rfl rfl ?_))
  refine (C5.out _ HB.out R0.out R1.out).mono ?_
  rintro e w8 ⟨⟨x5, A5, c5, rfl, k5, -, -, m5⟩, hb⟩
  have nHB := Lib.hid (belG HB.out hb HB.out.size)
  have nR0 := Lib.hid ((R0.out.below hb (Nat.le_refl _)).more hb.size)
  have nR1 := Lib.hid ((R1.out.below hb (Nat.le_refl _)).more hb.size)
  have nR2 := Lib.hid ((R2.out.below hb (Nat.le_refl _)).more hb.size)
  have nR3 := Lib.hid ((R3.out.below hb (Nat.le_refl _)).more hb.size)
  have nR4 := Lib.hid ((R4.out.below hb (Nat.le_refl _)).more hb.size)
  have nR5 := Lib.hid ((R5.out.below hb (Nat.le_refl _)).more hb.size)
  have nG0 := Lib.hid (oldG G0.out hb (Nat.le_refl _))
  have nG1 := Lib.hid (oldG G1.out hb (Nat.le_refl _))
  have nG2 := Lib.hid (oldG G2.out hb (Nat.le_refl _))
  have nG3 := Lib.hid (oldG G3.out hb (Nat.le_refl _))
  have nG4 := Lib.hid (oldG G4.out hb (Nat.le_refl _))
  clear hb
  clear HB R0 R1 R2 R3 R4 R5 G0 G1 G2 G3 G4
  have HB := nHB
  have R0 := nR0
  have R1 := nR1
  have R2 := nR2
  have R3 := nR3
  have R4 := nR4
  have R5 := nR5
  have G0 := nG0
  have G1 := nG1
  have G2 := nG2
  have G3 := nG3
  have G4 := nG4
  clear nHB nR0 nR1 nR2 nR3 nR4 nR5 nG0 nG1 nG2 nG3 nG4
  have R6 := Lib.hid k5
  have M5 := Lib.hid m5
  clear k5 m5
  have LB := Lib.hid HB.out.size
  have LTG0 := Lib.hid (show W.heap.size < w8.heap.size from (Array.getElem?_eq_some_iff.1 G0.out).1)
  have LTG1 := Lib.hid (show g1 < w8.heap.size from (Array.getElem?_eq_some_iff.1 G1.out).1)
  have LTG2 := Lib.hid (show g2 < w8.heap.size from (Array.getElem?_eq_some_iff.1 G2.out).1)
  have LTG3 := Lib.hid (show g3 < w8.heap.size from (Array.getElem?_eq_some_iff.1 G3.out).1)
  have LTG4 := Lib.hid (show g4 < w8.heap.size from (Array.getElem?_eq_some_iff.1 G4.out).1)
  obtain ⟨V8, hV8⟩ : ∃ V, V = w8.alloc (.cells (hubC x5 E3.1) 29) := ⟨_, rfl⟩
  have ha := (Below.refl w8.heap.size w8).alloc (Nat.le_refl _) (.cells (hubC x5 E3.1) 29)
  have hg := heap_alloc_new w8 (.cells (hubC x5 E3.1) 29)
  have nHB := Lib.hid (HB.out.alloc HB.out.size (.cells (hubC x5 E3.1) 29))
  rw [← hV8] at ha hg nHB
  have nR0 := Lib.hid ((R0.out.below ha (Nat.le_refl _)).more ha.size)
  have nR1 := Lib.hid ((R1.out.below ha (Nat.le_refl _)).more ha.size)
  have nR2 := Lib.hid ((R2.out.below ha (Nat.le_refl _)).more ha.size)
  have nR3 := Lib.hid ((R3.out.below ha (Nat.le_refl _)).more ha.size)
  have nR4 := Lib.hid ((R4.out.below ha (Nat.le_refl _)).more ha.size)
  have nR5 := Lib.hid ((R5.out.below ha (Nat.le_refl _)).more ha.size)
  have nR6 := Lib.hid ((R6.out.below ha (Nat.le_refl _)).more ha.size)
  have nM5 := Lib.hid ((M5.out.below ha (Nat.le_refl _)).more ha.size)
  have nG0 := Lib.hid (oldG G0.out ha (Nat.le_refl _))
  have nG1 := Lib.hid (oldG G1.out ha (Nat.le_refl _))
  have nG2 := Lib.hid (oldG G2.out ha (Nat.le_refl _))
  have nG3 := Lib.hid (oldG G3.out ha (Nat.le_refl _))
  have nG4 := Lib.hid (oldG G4.out ha (Nat.le_refl _))
  obtain ⟨g5, hg5⟩ : ∃ g, g = w8.heap.size := ⟨_, rfl⟩
  rw [← hg5] at hg
  have HXG5 := Lib.hid hg5
  have G5 := Lib.hid hg
  have HV := Lib.hid hV8
  clear ha hg hV8 hg5
  clear HB R0 R1 R2 R3 R4 R5 R6 M5 G0 G1 G2 G3 G4
  have HB := nHB
  have R0 := nR0
  have R1 := nR1
  have R2 := nR2
  have R3 := nR3
  have R4 := nR4
  have R5 := nR5
  have R6 := nR6
  have M5 := nM5
  have G0 := nG0
  have G1 := nG1
  have G2 := nG2
  have G3 := nG3
  have G4 := nG4
  clear nHB nR0 nR1 nR2 nR3 nR4 nR5 nR6 nM5 nG0 nG1 nG2 nG3 nG4
  have LEG5 := Lib.hid (show W.heap.size ≤ g5 from by rw [HXG5.out]; exact LB.out)
  have NEG0G5 := Lib.hid (show W.heap.size ≠ g5 from by have h1 := LTG0.out; rw [HXG5.out]; omega)
  have NEG5G0 := Lib.hid (NEG0G5.out.symm)
  have NEG1G5 := Lib.hid (show g1 ≠ g5 from by have h1 := LTG1.out; rw [HXG5.out]; omega)
  have NEG5G1 := Lib.hid (NEG1G5.out.symm)
  have NEG2G5 := Lib.hid (show g2 ≠ g5 from by have h1 := LTG2.out; rw [HXG5.out]; omega)
  have NEG5G2 := Lib.hid (NEG2G5.out.symm)
  have NEG3G5 := Lib.hid (show g3 ≠ g5 from by have h1 := LTG3.out; rw [HXG5.out]; omega)
  have NEG5G3 := Lib.hid (NEG3G5.out.symm)
  have NEG4G5 := Lib.hid (show g4 ≠ g5 from by have h1 := LTG4.out; rw [HXG5.out]; omega)
  have NEG5G4 := Lib.hid (NEG4G5.out.symm)
  clear LB LTG0 LTG1 LTG2 LTG3 LTG4
  go_upto_region 9 with (refine storeHb _ (.tmp 16) (.tmp 66) _ x5 E3.1 _ (heap_alloc_new _ _) rfl rfl rfl rfl rfl ?_; rw [setRowG_fold])
  rw [← HV.out]
  (try rw [← HXG5.out])
  clear HV HXG5
  go_wp2_with (first | (refine loadHb _ (.tmp 3) W.heap.size x h G0.out rfl rfl rfl ?_) | (refine loadHb _ (.tmp 8) g1 x1 E1.1 G1.out rfl rfl rfl ?_) | (refine loadHb _ (.tmp 10) g2 x2 E1.1 G2.out rfl rfl rfl ?_) | (refine loadHb _ (.tmp 12) g3 x3 E2.1 G3.out rfl rfl rfl ?_) | (refine loadHb _ (.tmp 14) g4 x4 E2.1 G4.out rfl rfl rfl ?_) | (refine loadHb _ (.tmp 16) g5 x5 E3.1 G5.out rfl rfl rfl ?_))
  refine (C6.out _ HB.out R0.out R1.out).mono ?_
  rintro e w9 ⟨⟨x6, A6, c6, rfl, k6, -, -, m6⟩, hb⟩
  have nHB := Lib.hid (belG HB.out hb HB.out.size)
  have nR0 := Lib.hid ((R0.out.below hb (Nat.le_refl _)).more hb.size)
  have nR1 := Lib.hid ((R1.out.below hb (Nat.le_refl _)).more hb.size)
  have nR2 := Lib.hid ((R2.out.below hb (Nat.le_refl _)).more hb.size)
  have nR3 := Lib.hid ((R3.out.below hb (Nat.le_refl _)).more hb.size)
  have nR4 := Lib.hid ((R4.out.below hb (Nat.le_refl _)).more hb.size)
  have nR5 := Lib.hid ((R5.out.below hb (Nat.le_refl _)).more hb.size)
  have nR6 := Lib.hid ((R6.out.below hb (Nat.le_refl _)).more hb.size)
  have nM5 := Lib.hid ((M5.out.below hb (Nat.le_refl _)).more hb.size)
  have nG0 := Lib.hid (oldG G0.out hb (Nat.le_refl _))
  have nG1 := Lib.hid (oldG G1.out hb (Nat.le_refl _))
  have nG2 := Lib.hid (oldG G2.out hb (Nat.le_refl _))
  have nG3 := Lib.hid (oldG G3.out hb (Nat.le_refl _))
  have nG4 := Lib.hid (oldG G4.out hb (Nat.le_refl _))
  have nG5 := Lib.hid (oldG G5.out hb (Nat.le_refl _))
  clear hb
  clear HB R0 R1 R2 R3 R4 R5 R6 M5 G0 G1 G2 G3 G4 G5
  have HB := nHB
  have R0 := nR0
  have R1 := nR1
  have R2 := nR2
  have R3 := nR3
  have R4 := nR4
  have R5 := nR5
  have R6 := nR6
  have M5 := nM5
  have G0 := nG0
  have G1 := nG1
  have G2 := nG2
  have G3 := nG3
  have G4 := nG4
  have G5 := nG5
  clear nHB nR0 nR1 nR2 nR3 nR4 nR5 nR6 nM5 nG0 nG1 nG2 nG3 nG4 nG5
  have R7 := Lib.hid k6
  have M6 := Lib.hid m6
  clear k6 m6
  have LB := Lib.hid HB.out.size
  have LTG0 := Lib.hid (show W.heap.size < w9.heap.size from (Array.getElem?_eq_some_iff.1 G0.out).1)
  have LTG1 := Lib.hid (show g1 < w9.heap.size from (Array.getElem?_eq_some_iff.1 G1.out).1)
  have LTG2 := Lib.hid (show g2 < w9.heap.size from (Array.getElem?_eq_some_iff.1 G2.out).1)
  have LTG3 := Lib.hid (show g3 < w9.heap.size from (Array.getElem?_eq_some_iff.1 G3.out).1)
  have LTG4 := Lib.hid (show g4 < w9.heap.size from (Array.getElem?_eq_some_iff.1 G4.out).1)
  have LTG5 := Lib.hid (show g5 < w9.heap.size from (Array.getElem?_eq_some_iff.1 G5.out).1)
  obtain ⟨V9, hV9⟩ : ∃ V, V = w9.alloc (.cells (hubC x6 E3.1) 29) := ⟨_, rfl⟩
  have ha := (Below.refl w9.heap.size w9).alloc (Nat.le_refl _) (.cells (hubC x6 E3.1) 29)
  have hg := heap_alloc_new w9 (.cells (hubC x6 E3.1) 29)
  have nHB := Lib.hid (HB.out.alloc HB.out.size (.cells (hubC x6 E3.1) 29))
  rw [← hV9] at ha hg nHB
  have nR0 := Lib.hid ((R0.out.below ha (Nat.le_refl _)).more ha.size)
  have nR1 := Lib.hid ((R1.out.below ha (Nat.le_refl _)).more ha.size)
  have nR2 := Lib.hid ((R2.out.below ha (Nat.le_refl _)).more ha.size)
  have nR3 := Lib.hid ((R3.out.below ha (Nat.le_refl _)).more ha.size)
  have nR4 := Lib.hid ((R4.out.below ha (Nat.le_refl _)).more ha.size)
  have nR5 := Lib.hid ((R5.out.below ha (Nat.le_refl _)).more ha.size)
  have nR6 := Lib.hid ((R6.out.below ha (Nat.le_refl _)).more ha.size)
  have nM5 := Lib.hid ((M5.out.below ha (Nat.le_refl _)).more ha.size)
  have nR7 := Lib.hid ((R7.out.below ha (Nat.le_refl _)).more ha.size)
  have nM6 := Lib.hid ((M6.out.below ha (Nat.le_refl _)).more ha.size)
  have nG0 := Lib.hid (oldG G0.out ha (Nat.le_refl _))
  have nG1 := Lib.hid (oldG G1.out ha (Nat.le_refl _))
  have nG2 := Lib.hid (oldG G2.out ha (Nat.le_refl _))
  have nG3 := Lib.hid (oldG G3.out ha (Nat.le_refl _))
  have nG4 := Lib.hid (oldG G4.out ha (Nat.le_refl _))
  have nG5 := Lib.hid (oldG G5.out ha (Nat.le_refl _))
  obtain ⟨g6, hg6⟩ : ∃ g, g = w9.heap.size := ⟨_, rfl⟩
  rw [← hg6] at hg
  have HXG6 := Lib.hid hg6
  have G6 := Lib.hid hg
  have HV := Lib.hid hV9
  clear ha hg hV9 hg6
  clear HB R0 R1 R2 R3 R4 R5 R6 M5 R7 M6 G0 G1 G2 G3 G4 G5
  have HB := nHB
  have R0 := nR0
  have R1 := nR1
  have R2 := nR2
  have R3 := nR3
  have R4 := nR4
  have R5 := nR5
  have R6 := nR6
  have M5 := nM5
  have R7 := nR7
  have M6 := nM6
  have G0 := nG0
  have G1 := nG1
  have G2 := nG2
  have G3 := nG3
  have G4 := nG4
  have G5 := nG5
  clear nHB nR0 nR1 nR2 nR3 nR4 nR5 nR6 nM5 nR7 nM6 nG0 nG1 nG2 nG3 nG4 nG5
  have LEG6 := Lib.hid (show W.heap.size ≤ g6 from by rw [HXG6.out]; exact LB.out)
  have NEG0G6 := Lib.hid (show W.heap.size ≠ g6 from by have h1 := LTG0.out; rw [HXG6.out]; omega)
  have NEG6G0 := Lib.hid (NEG0G6.out.symm)
  have NEG1G6 := Lib.hid (show g1 ≠ g6 from by have h1 := LTG1.out; rw [HXG6.out]; omega)
  have NEG6G1 := Lib.hid (NEG1G6.out.symm)
  have NEG2G6 := Lib.hid (show g2 ≠ g6 from by have h1 := LTG2.out; rw [HXG6.out]; omega)
  have NEG6G2 := Lib.hid (NEG2G6.out.symm)
  have NEG3G6 := Lib.hid (show g3 ≠ g6 from by have h1 := LTG3.out; rw [HXG6.out]; omega)
  have NEG6G3 := Lib.hid (NEG3G6.out.symm)
  have NEG4G6 := Lib.hid (show g4 ≠ g6 from by have h1 := LTG4.out; rw [HXG6.out]; omega)
  have NEG6G4 := Lib.hid (NEG4G6.out.symm)
  have NEG5G6 := Lib.hid (show g5 ≠ g6 from by have h1 := LTG5.out; rw [HXG6.out]; omega)
  have NEG6G5 := Lib.hid (NEG5G6.out.symm)
  clear LB LTG0 LTG1 LTG2 LTG3 LTG4 LTG5
  go_upto_region 10 with (refine storeHb _ (.tmp 19) (.tmp 74) _ x6 E3.1 _ (heap_alloc_new _ _) rfl rfl rfl rfl rfl ?_; rw [setRowG_fold])
  rw [← HV.out]
  (try rw [← HXG6.out])
  clear HV HXG6
  go_wp2_with (first | (refine loadHb _ (.tmp 3) W.heap.size x h G0.out rfl rfl rfl ?_) | (refine loadHb _ (.tmp 8) g1 x1 E1.1 G1.out rfl rfl rfl ?_) | (refine loadHb _ (.tmp 10) g2 x2 E1.1 G2.out rfl rfl rfl ?_) | (refine loadHb _ (.tmp 12) g3 x3 E2.1 G3.out rfl rfl rfl ?_) | (refine loadHb _ (.tmp 14) g4 x4 E2.1 G4.out rfl rfl rfl ?_) | (refine loadHb _ (.tmp 16) g5 x5 E3.1 G5.out rfl rfl rfl ?_) | (refine loadHb _ (.tmp 19) g6 x6 E3.1 G6.out rfl rfl rfl ?_))
  refine (CZ1.out x1 x2 _ R2.out R3.out).mono ?_
  rintro e w10 ⟨rfl, hb⟩
  have nHB := Lib.hid (belG HB.out hb HB.out.size)
  have nR0 := Lib.hid ((R0.out.below hb (Nat.le_refl _)).more hb.size)
  have nR1 := Lib.hid ((R1.out.below hb (Nat.le_refl _)).more hb.size)
  have nR2 := Lib.hid ((R2.out.below hb (Nat.le_refl _)).more hb.size)
  have nR3 := Lib.hid ((R3.out.below hb (Nat.le_refl _)).more hb.size)
  have nR4 := Lib.hid ((R4.out.below hb (Nat.le_refl _)).more hb.size)
  have nR5 := Lib.hid ((R5.out.below hb (Nat.le_refl _)).more hb.size)
  have nR6 := Lib.hid ((R6.out.below hb (Nat.le_refl _)).more hb.size)
  have nM5 := Lib.hid ((M5.out.below hb (Nat.le_refl _)).more hb.size)
  have nR7 := Lib.hid ((R7.out.below hb (Nat.le_refl _)).more hb.size)
  have nM6 := Lib.hid ((M6.out.below hb (Nat.le_refl _)).more hb.size)
  have nG0 := Lib.hid (oldG G0.out hb (Nat.le_refl _))
  have nG1 := Lib.hid (oldG G1.out hb (Nat.le_refl _))
  have nG2 := Lib.hid (oldG G2.out hb (Nat.le_refl _))
  have nG3 := Lib.hid (oldG G3.out hb (Nat.le_refl _))
  have nG4 := Lib.hid (oldG G4.out hb (Nat.le_refl _))
  have nG5 := Lib.hid (oldG G5.out hb (Nat.le_refl _))
  have nG6 := Lib.hid (oldG G6.out hb (Nat.le_refl _))
  clear hb
  clear HB R0 R1 R2 R3 R4 R5 R6 M5 R7 M6 G0 G1 G2 G3 G4 G5 G6
  have HB := nHB
  have R0 := nR0
  have R1 := nR1
  have R2 := nR2
  have R3 := nR3
  have R4 := nR4
  have R5 := nR5
  have R6 := nR6
  have M5 := nM5
  have R7 := nR7
  have M6 := nM6
  have G0 := nG0
  have G1 := nG1
  have G2 := nG2
  have G3 := nG3
  have G4 := nG4
  have G5 := nG5
  have G6 := nG6
  clear nHB nR0 nR1 nR2 nR3 nR4 nR5 nR6 nM5 nR7 nM6 nG0 nG1 nG2 nG3 nG4 nG5 nG6
  go_wp2_with (first | (refine loadHb _ (.tmp 3) W.heap.size x h G0.out rfl rfl rfl ?_) | (refine loadHb _ (.tmp 8) g1 x1 E1.1 G1.out rfl rfl rfl ?_) | (refine loadHb _ (.tmp 10) g2 x2 E1.1 G2.out rfl rfl rfl ?_) | (refine loadHb _ (.tmp 12) g3 x3 E2.1 G3.out rfl rfl rfl ?_) | (refine loadHb _ (.tmp 14) g4 x4 E2.1 G4.out rfl rfl rfl ?_) | (refine loadHb _ (.tmp 16) g5 x5 E3.1 G5.out rfl rfl rfl ?_) | (refine loadHb _ (.tmp 19) g6 x6 E3.1 G6.out rfl rfl rfl ?_))
  refine (CZ2.out x3 x4 _ R4.out R5.out).mono ?_
  rintro e w11 ⟨rfl, hb⟩
  have nHB := Lib.hid (belG HB.out hb HB.out.size)
  have nR0 := Lib.hid ((R0.out.below hb (Nat.le_refl _)).more hb.size)
  have nR1 := Lib.hid ((R1.out.below hb (Nat.le_refl _)).more hb.size)
  have nR2 := Lib.hid ((R2.out.below hb (Nat.le_refl _)).more hb.size)
  have nR3 := Lib.hid ((R3.out.below hb (Nat.le_refl _)).more hb.size)
  have nR4 := Lib.hid ((R4.out.below hb (Nat.le_refl _)).more hb.size)
  have nR5 := Lib.hid ((R5.out.below hb (Nat.le_refl _)).more hb.size)
  have nR6 := Lib.hid ((R6.out.below hb (Nat.le_refl _)).more hb.size)
  have nM5 := Lib.hid ((M5.out.below hb (Nat.le_refl _)).more hb.size)
  have nR7 := Lib.hid ((R7.out.below hb (Nat.le_refl _)).more hb.size)
  have nM6 := Lib.hid ((M6.out.below hb (Nat.le_refl _)).more hb.size)
  have nG0 := Lib.hid (oldG G0.out hb (Nat.le_refl _))
  have nG1 := Lib.hid (oldG G1.out hb (Nat.le_refl _))
  have nG2 := Lib.hid (oldG G2.out hb (Nat.le_refl _))
  have nG3 := Lib.hid (oldG G3.out hb (Nat.le_refl _))
  have nG4 := Lib.hid (oldG G4.out hb (Nat.le_refl _))
  have nG5 := Lib.hid (oldG G5.out hb (Nat.le_refl _))
  have nG6 := Lib.hid (oldG G6.out hb (Nat.le_refl _))
  clear hb
  clear HB R0 R1 R2 R3 R4 R5 R6 M5 R7 M6 G0 G1 G2 G3 G4 G5 G6
  have HB := nHB
  have R0 := nR0
  have R1 := nR1
  have R2 := nR2
  have R3 := nR3
  have R4 := nR4
  have R5 := nR5
  have R6 := nR6
  have M5 := nM5
  have R7 := nR7
  have M6 := nM6
  have G0 := nG0
  have G1 := nG1
  have G2 := nG2
  have G3 := nG3
  have G4 := nG4
  have G5 := nG5
  have G6 := nG6
  clear nHB nR0 nR1 nR2 nR3 nR4 nR5 nR6 nM5 nR7 nM6 nG0 nG1 nG2 nG3 nG4 nG5 nG6
  go_wp2_with (first | (refine loadHb _ (.tmp 3) W.heap.size x h G0.out rfl rfl rfl ?_) | (refine loadHb _ (.tmp 8) g1 x1 E1.1 G1.out rfl rfl rfl ?_) | (refine loadHb _ (.tmp 10) g2 x2 E1.1 G2.out rfl rfl rfl ?_) | (refine loadHb _ (.tmp 12) g3 x3 E2.1 G3.out rfl rfl rfl ?_) | (refine loadHb _ (.tmp 14) g4 x4 E2.1 G4.out rfl rfl rfl ?_) | (refine loadHb _ (.tmp 16) g5 x5 E3.1 G5.out rfl rfl rfl ?_) | (refine loadHb _ (.tmp 19) g6 x6 E3.1 G6.out rfl rfl rfl ?_))
  refine (CZ3.out x5 x6 _ R6.out R7.out).mono ?_
  rintro e w12 ⟨rfl, hb⟩
  have nHB := Lib.hid (belG HB.out hb HB.out.size)
  have nR0 := Lib.hid ((R0.out.below hb (Nat.le_refl _)).more hb.size)
  have nR1 := Lib.hid ((R1.out.below hb (Nat.le_refl _)).more hb.size)
  have nR2 := Lib.hid ((R2.out.below hb (Nat.le_refl _)).more hb.size)
  have nR3 := Lib.hid ((R3.out.below hb (Nat.le_refl _)).more hb.size)
  have nR4 := Lib.hid ((R4.out.below hb (Nat.le_refl _)).more hb.size)
  have nR5 := Lib.hid ((R5.out.below hb (Nat.le_refl _)).more hb.size)
  have nR6 := Lib.hid ((R6.out.below hb (Nat.le_refl _)).more hb.size)
  have nM5 := Lib.hid ((M5.out.below hb (Nat.le_refl _)).more hb.size)
  have nR7 := Lib.hid ((R7.out.below hb (Nat.le_refl _)).more hb.size)
  have nM6 := Lib.hid ((M6.out.below hb (Nat.le_refl _)).more hb.size)
  have nG0 := Lib.hid (oldG G0.out hb (Nat.le_refl _))
  have nG1 := Lib.hid (oldG G1.out hb (Nat.le_refl _))
  have nG2 := Lib.hid (oldG G2.out hb (Nat.le_refl _))
  have nG3 := Lib.hid (oldG G3.out hb (Nat.le_refl _))
  have nG4 := Lib.hid (oldG G4.out hb (Nat.le_refl _))
  have nG5 := Lib.hid (oldG G5.out hb (Nat.le_refl _))
  have nG6 := Lib.hid (oldG G6.out hb (Nat.le_refl _))
  clear hb
  clear HB R0 R1 R2 R3 R4 R5 R6 M5 R7 M6 G0 G1 G2 G3 G4 G5 G6
  have HB := nHB
  have R0 := nR0
  have R1 := nR1
  have R2 := nR2
  have R3 := nR3
  have R4 := nR4
  have R5 := nR5
  have R6 := nR6
  have M5 := nM5
  have R7 := nR7
  have M6 := nM6
  have G0 := nG0
  have G1 := nG1
  have G2 := nG2
  have G3 := nG3
  have G4 := nG4
  have G5 := nG5
  have G6 := nG6
  clear nHB nR0 nR1 nR2 nR3 nR4 nR5 nR6 nM5 nR7 nM6 nG0 nG1 nG2 nG3 nG4 nG5 nG6
  go_wp2_with (first | (refine loadHb _ (.tmp 3) W.heap.size x h G0.out rfl rfl rfl ?_) | (refine loadHb _ (.tmp 8) g1 x1 E1.1 G1.out rfl rfl rfl ?_) | (refine loadHb _ (.tmp 10) g2 x2 E1.1 G2.out rfl rfl rfl ?_) | (refine loadHb _ (.tmp 12) g3 x3 E2.1 G3.out rfl rfl rfl ?_) | (refine loadHb _ (.tmp 14) g4 x4 E2.1 G4.out rfl rfl rfl ?_) | (refine loadHb _ (.tmp 16) g5 x5 E3.1 G5.out rfl rfl rfl ?_) | (refine loadHb _ (.tmp 19) g6 x6 E3.1 G6.out rfl rfl rfl ?_))
  refine (CM.out A5 A6 c5 c6 _ M5.out M6.out).mono ?_
  rintro e w13 ⟨rfl, hb⟩
  have nHB := Lib.hid (belG HB.out hb HB.out.size)
  have nR0 := Lib.hid ((R0.out.below hb (Nat.le_refl _)).more hb.size)
  have nR1 := Lib.hid ((R1.out.below hb (Nat.le_refl _)).more hb.size)
  have nR2 := Lib.hid ((R2.out.below hb (Nat.le_refl _)).more hb.size)
  have nR3 := Lib.hid ((R3.out.below hb (Nat.le_refl _)).more hb.size)
  have nR4 := Lib.hid ((R4.out.below hb (Nat.le_refl _)).more hb.size)
  have nR5 := Lib.hid ((R5.out.below hb (Nat.le_refl _)).more hb.size)
  have nR6 := Lib.hid ((R6.out.below hb (Nat.le_refl _)).more hb.size)
  have nM5 := Lib.hid ((M5.out.below hb (Nat.le_refl _)).more hb.size)
  have nR7 := Lib.hid ((R7.out.below hb (Nat.le_refl _)).more hb.size)
  have nM6 := Lib.hid ((M6.out.below hb (Nat.le_refl _)).more hb.size)
  have nG0 := Lib.hid (oldG G0.out hb (Nat.le_refl _))
  have nG1 := Lib.hid (oldG G1.out hb (Nat.le_refl _))
  have nG2 := Lib.hid (oldG G2.out hb (Nat.le_refl _))
  have nG3 := Lib.hid (oldG G3.out hb (Nat.le_refl _))
  have nG4 := Lib.hid (oldG G4.out hb (Nat.le_refl _))
  have nG5 := Lib.hid (oldG G5.out hb (Nat.le_refl _))
  have nG6 := Lib.hid (oldG G6.out hb (Nat.le_refl _))
  clear hb
  clear HB R0 R1 R2 R3 R4 R5 R6 M5 R7 M6 G0 G1 G2 G3 G4 G5 G6
  have HB := nHB
  have R0 := nR0
  have R1 := nR1
  have R2 := nR2
  have R3 := nR3
  have R4 := nR4
  have R5 := nR5
  have R6 := nR6
  have M5 := nM5
  have R7 := nR7
  have M6 := nM6
  have G0 := nG0
  have G1 := nG1
  have G2 := nG2
  have G3 := nG3
  have G4 := nG4
  have G5 := nG5
  have G6 := nG6
  clear nHB nR0 nR1 nR2 nR3 nR4 nR5 nR6 nM5 nR7 nM6 nG0 nG1 nG2 nG3 nG4 nG5 nG6
  go_wp2_with (first | (refine loadHb _ (.tmp 3) W.heap.size x h G0.out rfl rfl rfl ?_) | (refine loadHb _ (.tmp 8) g1 x1 E1.1 G1.out rfl rfl rfl ?_) | (refine loadHb _ (.tmp 10) g2 x2 E1.1 G2.out rfl rfl rfl ?_) | (refine loadHb _ (.tmp 12) g3 x3 E2.1 G3.out rfl rfl rfl ?_) | (refine loadHb _ (.tmp 14) g4 x4 E2.1 G4.out rfl rfl rfl ?_) | (refine loadHb _ (.tmp 16) g5 x5 E3.1 G5.out rfl rfl rfl ?_) | (refine loadHb _ (.tmp 19) g6 x6 E3.1 G6.out rfl rfl rfl ?_))
  go_ret
  exact ⟨by first | rfl | simp, HB.out⟩
end Go.Proofs.Ytplekllhnpljiaa
