
/- HubApart's walk. -/
import Derived.Test.YtplekllhnpljiaaHApA
import Derived.Test.YtplekllhnpljiaaHApB
import Derived.Test.YtplekllhnpljiaaHApC
import Derived.Test.YtplekllhnpljiaaHApD
import Derived.Test.YtplekllhnpljiaaHApE
namespace Go.Proofs.Ytplekllhnpljiaa
open Go.RowKit

set_option maxRecDepth 100000 in
set_option maxHeartbeats 40000000 in
theorem hubApart_walk (x : Wh) (h : Hb) (c : Int) (B : Option Addr) (v : List UInt8) (d : Nat) (o : Int) (W : World) (hl : Hb64 h) (hr : HubR W x h) (hc : B64 c) (hd : v.length ≤ d) (hdm : d ≤ 9223372036854775807) (hrb : Rd W W.heap.size B v) (ho : 0 ≤ o ∧ o ≤ 255) :
    Calls Try.prog 6 #[.agg (hubCw x h (.int .i64 c) (.slice B v.length d) (.int .u8 o))] W fun e W' => e = .returned (.bool true) ∧ Below W.heap.size W W' := by
  have R0 := Lib.hid hr
  have R1 := Lib.hid hrb
  have HL := Lib.hid hl
  have CF := Lib.hid (fun w => refFew_any x h w)
  have CR := Lib.hid (fun w (hB : Below W.heap.size W w) (r0 : HubR w x h) => refRight9_any x h w r0)
  by_cases h1 : fewH h
  case neg =>
    rw [decide_eq_false h1] at CF
    obtain ⟨n, hn⟩ : ∃ n, n = v.length := ⟨_, rfl⟩
    rw [← hn]
    clear hl hr hc hd hdm hrb ho hn
    obtain ⟨C, hC⟩ : ∃ C, C = hubCw x h (.int .i64 c) (.slice B n d) (.int .u8 o) := ⟨_, rfl⟩
    have hb := (Below.refl W.heap.size W).alloc (Nat.le_refl _) (.cells C 51)
    have hg := heap_alloc_new W (.cells C 51)
    obtain ⟨V0, hV⟩ : ∃ V, V = W.alloc (.cells C 51) := ⟨_, rfl⟩
    rw [← hV] at hb hg
    have HB := Lib.hid hb
    have hgw : V0.heap[W.heap.size]? = some (.cells (hubCw x h (.int .i64 c) (.slice B n d) (.int .u8 o)) 51 (0, 0)) := by rw [← hC]; exact hg
    have GW := Lib.hid hgw
    rw [← hC]
    have nR0 := Lib.hid ((R0.out.below hb (Nat.le_refl _)).more hb.size)
    have nR1 := Lib.hid ((R1.out.below hb (Nat.le_refl _)).more hb.size)
    have HV := Lib.hid hV
    clear hb hg hV hC hgw
    clear R0 R1
    have R0 := nR0
    have R1 := nR1
    clear nR0 nR1
    go_enter Try.func6, Try.ntmps6
    go_upto_region 1 with (fail)
    rw [← HV.out]
    clear HV
    have GWP := GW
    have LB := Lib.hid HB.out.size
    obtain ⟨V1, hV1⟩ : ∃ V, V = V0.alloc (.cells (hubC x h) 29) := ⟨_, rfl⟩
    have ha := (Below.refl V0.heap.size V0).alloc (Nat.le_refl _) (.cells (hubC x h) 29)
    have hg := heap_alloc_new V0 (.cells (hubC x h) 29)
    have nHB := Lib.hid (HB.out.alloc HB.out.size (.cells (hubC x h) 29))
    rw [← hV1] at ha hg nHB
    have nR0 := Lib.hid ((R0.out.below ha (Nat.le_refl _)).more ha.size)
    have nR1 := Lib.hid ((R1.out.below ha (Nat.le_refl _)).more ha.size)
    have nGW := Lib.hid (oldG GW.out ha (Nat.le_refl _))
    obtain ⟨g3, hg3⟩ : ∃ g, g = V0.heap.size := ⟨_, rfl⟩
    rw [← hg3] at hg
    have HXG3 := Lib.hid hg3
    have G3 := Lib.hid hg
    have HV := Lib.hid hV1
    clear ha hg hV1 hg3
    clear HB R0 R1 GW
    have HB := nHB
    have R0 := nR0
    have R1 := nR1
    have GW := nGW
    clear nHB nR0 nR1 nGW
    have LEG3 := Lib.hid (show W.heap.size ≤ g3 from by rw [HXG3.out]; exact LB.out)
    clear LB
    go_upto_region 2 with (first | (refine loadHw _ (.tmp 16) W.heap.size _ x h _ _ _ GWP.out rfl rfl rfl ?_) | (refine storeHb _ (.tmp 3) (.tmp 17) _ x h _ (heap_alloc_new _ _) rfl rfl rfl rfl rfl ?_; rw [setRowG_fold]))
    rw [← HV.out]
    (try rw [← HXG3.out])
    clear HV HXG3
    have u0 := (cell_of_row _ _ 21 _ _ _ GW.out).trans (hubCw_a _ _ _ _ _)
    have u1 := (cell_of_row _ _ 22 _ _ _ GW.out).trans (hubCw_b _ _ _ _ _)
    have u2 := (cell_of_row _ _ 23 _ _ _ GW.out).trans (hubCw_c _ _ _ _ _)
    clear GWP
    go_wp2_with (first | (refine loadHb _ (.tmp 3) g3 x h G3.out rfl rfl rfl ?_))
    clear u0 u1 u2 GW
    refine (shown9_any _).mono ?_
    rintro e w2 ⟨rfl, hb⟩
    have nHB := Lib.hid (belG HB.out hb HB.out.size)
    have nR0 := Lib.hid ((R0.out.below hb (Nat.le_refl _)).more hb.size)
    have nR1 := Lib.hid ((R1.out.below hb (Nat.le_refl _)).more hb.size)
    have nG3 := Lib.hid (oldG G3.out hb (Nat.le_refl _))
    clear hb
    clear HB R0 R1 G3
    have HB := nHB
    have R0 := nR0
    have R1 := nR1
    have G3 := nG3
    clear nHB nR0 nR1 nG3
    go_wp2_with (first | (refine loadHb _ (.tmp 3) g3 x h G3.out rfl rfl rfl ?_))
    refine (CF.out _).mono ?_
    rintro e w3 ⟨rfl, hb⟩
    have nHB := Lib.hid (belG HB.out hb HB.out.size)
    have nR0 := Lib.hid ((R0.out.below hb (Nat.le_refl _)).more hb.size)
    have nR1 := Lib.hid ((R1.out.below hb (Nat.le_refl _)).more hb.size)
    have nG3 := Lib.hid (oldG G3.out hb (Nat.le_refl _))
    clear hb
    clear HB R0 R1 G3
    have HB := nHB
    have R0 := nR0
    have R1 := nR1
    have G3 := nG3
    clear nHB nR0 nR1 nG3
    go_wp2_with (first | (refine loadHb _ (.tmp 3) g3 x h G3.out rfl rfl rfl ?_))
    go_ret
    exact ⟨rfl, HB.out⟩
  rw [decide_eq_true h1] at CF
  by_cases hR : RightHb h
  case neg =>
    rw [decide_eq_false hR] at CR
    obtain ⟨n, hn⟩ : ∃ n, n = v.length := ⟨_, rfl⟩
    rw [← hn]
    clear hl hr hc hd hdm hrb ho hn
    obtain ⟨C, hC⟩ : ∃ C, C = hubCw x h (.int .i64 c) (.slice B n d) (.int .u8 o) := ⟨_, rfl⟩
    have hb := (Below.refl W.heap.size W).alloc (Nat.le_refl _) (.cells C 51)
    have hg := heap_alloc_new W (.cells C 51)
    obtain ⟨V0, hV⟩ : ∃ V, V = W.alloc (.cells C 51) := ⟨_, rfl⟩
    rw [← hV] at hb hg
    have HB := Lib.hid hb
    have hgw : V0.heap[W.heap.size]? = some (.cells (hubCw x h (.int .i64 c) (.slice B n d) (.int .u8 o)) 51 (0, 0)) := by rw [← hC]; exact hg
    have GW := Lib.hid hgw
    rw [← hC]
    have nR0 := Lib.hid ((R0.out.below hb (Nat.le_refl _)).more hb.size)
    have nR1 := Lib.hid ((R1.out.below hb (Nat.le_refl _)).more hb.size)
    have HV := Lib.hid hV
    clear hb hg hV hC hgw
    clear R0 R1
    have R0 := nR0
    have R1 := nR1
    clear nR0 nR1
    go_enter Try.func6, Try.ntmps6
    go_upto_region 1 with (fail)
    rw [← HV.out]
    clear HV
    have GWP := GW
    have LB := Lib.hid HB.out.size
    obtain ⟨V1, hV1⟩ : ∃ V, V = V0.alloc (.cells (hubC x h) 29) := ⟨_, rfl⟩
    have ha := (Below.refl V0.heap.size V0).alloc (Nat.le_refl _) (.cells (hubC x h) 29)
    have hg := heap_alloc_new V0 (.cells (hubC x h) 29)
    have nHB := Lib.hid (HB.out.alloc HB.out.size (.cells (hubC x h) 29))
    rw [← hV1] at ha hg nHB
    have nR0 := Lib.hid ((R0.out.below ha (Nat.le_refl _)).more ha.size)
    have nR1 := Lib.hid ((R1.out.below ha (Nat.le_refl _)).more ha.size)
    have nGW := Lib.hid (oldG GW.out ha (Nat.le_refl _))
    obtain ⟨g3, hg3⟩ : ∃ g, g = V0.heap.size := ⟨_, rfl⟩
    rw [← hg3] at hg
    have HXG3 := Lib.hid hg3
    have G3 := Lib.hid hg
    have HV := Lib.hid hV1
    clear ha hg hV1 hg3
    clear HB R0 R1 GW
    have HB := nHB
    have R0 := nR0
    have R1 := nR1
    have GW := nGW
    clear nHB nR0 nR1 nGW
    have LEG3 := Lib.hid (show W.heap.size ≤ g3 from by rw [HXG3.out]; exact LB.out)
    clear LB
    go_upto_region 2 with (first | (refine loadHw _ (.tmp 16) W.heap.size _ x h _ _ _ GWP.out rfl rfl rfl ?_) | (refine storeHb _ (.tmp 3) (.tmp 17) _ x h _ (heap_alloc_new _ _) rfl rfl rfl rfl rfl ?_; rw [setRowG_fold]))
    rw [← HV.out]
    (try rw [← HXG3.out])
    clear HV HXG3
    have u0 := (cell_of_row _ _ 21 _ _ _ GW.out).trans (hubCw_a _ _ _ _ _)
    have u1 := (cell_of_row _ _ 22 _ _ _ GW.out).trans (hubCw_b _ _ _ _ _)
    have u2 := (cell_of_row _ _ 23 _ _ _ GW.out).trans (hubCw_c _ _ _ _ _)
    clear GWP
    go_wp2_with (first | (refine loadHb _ (.tmp 3) g3 x h G3.out rfl rfl rfl ?_))
    clear u0 u1 u2 GW
    refine (shown9_any _).mono ?_
    rintro e w2 ⟨rfl, hb⟩
    have nHB := Lib.hid (belG HB.out hb HB.out.size)
    have nR0 := Lib.hid ((R0.out.below hb (Nat.le_refl _)).more hb.size)
    have nR1 := Lib.hid ((R1.out.below hb (Nat.le_refl _)).more hb.size)
    have nG3 := Lib.hid (oldG G3.out hb (Nat.le_refl _))
    clear hb
    clear HB R0 R1 G3
    have HB := nHB
    have R0 := nR0
    have R1 := nR1
    have G3 := nG3
    clear nHB nR0 nR1 nG3
    go_wp2_with (first | (refine loadHb _ (.tmp 3) g3 x h G3.out rfl rfl rfl ?_))
    refine (CF.out _).mono ?_
    rintro e w3 ⟨rfl, hb⟩
    have nHB := Lib.hid (belG HB.out hb HB.out.size)
    have nR0 := Lib.hid ((R0.out.below hb (Nat.le_refl _)).more hb.size)
    have nR1 := Lib.hid ((R1.out.below hb (Nat.le_refl _)).more hb.size)
    have nG3 := Lib.hid (oldG G3.out hb (Nat.le_refl _))
    clear hb
    clear HB R0 R1 G3
    have HB := nHB
    have R0 := nR0
    have R1 := nR1
    have G3 := nG3
    clear nHB nR0 nR1 nG3
    go_wp2_with (first | (refine loadHb _ (.tmp 3) g3 x h G3.out rfl rfl rfl ?_))
    refine (CR.out _ HB.out R0.out).mono ?_
    rintro e w4 ⟨rfl, hb⟩
    have nHB := Lib.hid (belG HB.out hb HB.out.size)
    have nR0 := Lib.hid ((R0.out.below hb (Nat.le_refl _)).more hb.size)
    have nR1 := Lib.hid ((R1.out.below hb (Nat.le_refl _)).more hb.size)
    have nG3 := Lib.hid (oldG G3.out hb (Nat.le_refl _))
    clear hb
    clear HB R0 R1 G3
    have HB := nHB
    have R0 := nR0
    have R1 := nR1
    have G3 := nG3
    clear nHB nR0 nR1 nG3
    go_wp2_with (first | (refine loadHb _ (.tmp 3) g3 x h G3.out rfl rfl rfl ?_))
    go_ret
    exact ⟨rfl, HB.out⟩
  rw [decide_eq_true hR] at CR
  by_cases h2 : 2000 < v.length
  case pos =>
    have i0 : (2000 : Int) < (v.length : Int) := by omega
    obtain ⟨n, hn⟩ : ∃ n, n = v.length := ⟨_, rfl⟩
    rw [← hn]
    rw [← hn] at i0
    clear hl hr hc hd hdm hrb ho hn h2
    obtain ⟨C, hC⟩ : ∃ C, C = hubCw x h (.int .i64 c) (.slice B n d) (.int .u8 o) := ⟨_, rfl⟩
    have hb := (Below.refl W.heap.size W).alloc (Nat.le_refl _) (.cells C 51)
    have hg := heap_alloc_new W (.cells C 51)
    obtain ⟨V0, hV⟩ : ∃ V, V = W.alloc (.cells C 51) := ⟨_, rfl⟩
    rw [← hV] at hb hg
    have HB := Lib.hid hb
    have hgw : V0.heap[W.heap.size]? = some (.cells (hubCw x h (.int .i64 c) (.slice B n d) (.int .u8 o)) 51 (0, 0)) := by rw [← hC]; exact hg
    have GW := Lib.hid hgw
    rw [← hC]
    have nR0 := Lib.hid ((R0.out.below hb (Nat.le_refl _)).more hb.size)
    have nR1 := Lib.hid ((R1.out.below hb (Nat.le_refl _)).more hb.size)
    have HV := Lib.hid hV
    clear hb hg hV hC hgw
    clear R0 R1
    have R0 := nR0
    have R1 := nR1
    clear nR0 nR1
    go_enter Try.func6, Try.ntmps6
    go_upto_region 1 with (fail)
    rw [← HV.out]
    clear HV
    have GWP := GW
    have LB := Lib.hid HB.out.size
    obtain ⟨V1, hV1⟩ : ∃ V, V = V0.alloc (.cells (hubC x h) 29) := ⟨_, rfl⟩
    have ha := (Below.refl V0.heap.size V0).alloc (Nat.le_refl _) (.cells (hubC x h) 29)
    have hg := heap_alloc_new V0 (.cells (hubC x h) 29)
    have nHB := Lib.hid (HB.out.alloc HB.out.size (.cells (hubC x h) 29))
    rw [← hV1] at ha hg nHB
    have nR0 := Lib.hid ((R0.out.below ha (Nat.le_refl _)).more ha.size)
    have nR1 := Lib.hid ((R1.out.below ha (Nat.le_refl _)).more ha.size)
    have nGW := Lib.hid (oldG GW.out ha (Nat.le_refl _))
    obtain ⟨g3, hg3⟩ : ∃ g, g = V0.heap.size := ⟨_, rfl⟩
    rw [← hg3] at hg
    have HXG3 := Lib.hid hg3
    have G3 := Lib.hid hg
    have HV := Lib.hid hV1
    clear ha hg hV1 hg3
    clear HB R0 R1 GW
    have HB := nHB
    have R0 := nR0
    have R1 := nR1
    have GW := nGW
    clear nHB nR0 nR1 nGW
    have LEG3 := Lib.hid (show W.heap.size ≤ g3 from by rw [HXG3.out]; exact LB.out)
    clear LB
    go_upto_region 2 with (first | (refine loadHw _ (.tmp 16) W.heap.size _ x h _ _ _ GWP.out rfl rfl rfl ?_) | (refine storeHb _ (.tmp 3) (.tmp 17) _ x h _ (heap_alloc_new _ _) rfl rfl rfl rfl rfl ?_; rw [setRowG_fold]))
    rw [← HV.out]
    (try rw [← HXG3.out])
    clear HV HXG3
    have u0 := (cell_of_row _ _ 21 _ _ _ GW.out).trans (hubCw_a _ _ _ _ _)
    have u1 := (cell_of_row _ _ 22 _ _ _ GW.out).trans (hubCw_b _ _ _ _ _)
    have u2 := (cell_of_row _ _ 23 _ _ _ GW.out).trans (hubCw_c _ _ _ _ _)
    clear GWP
    go_wp2_with (first | (refine loadHb _ (.tmp 3) g3 x h G3.out rfl rfl rfl ?_))
    clear u0 u1 u2 GW
    refine (shown9_any _).mono ?_
    rintro e w2 ⟨rfl, hb⟩
    have nHB := Lib.hid (belG HB.out hb HB.out.size)
    have nR0 := Lib.hid ((R0.out.below hb (Nat.le_refl _)).more hb.size)
    have nR1 := Lib.hid ((R1.out.below hb (Nat.le_refl _)).more hb.size)
    have nG3 := Lib.hid (oldG G3.out hb (Nat.le_refl _))
    clear hb
    clear HB R0 R1 G3
    have HB := nHB
    have R0 := nR0
    have R1 := nR1
    have G3 := nG3
    clear nHB nR0 nR1 nG3
    go_wp2_with (first | (refine loadHb _ (.tmp 3) g3 x h G3.out rfl rfl rfl ?_))
    refine (CF.out _).mono ?_
    rintro e w3 ⟨rfl, hb⟩
    have nHB := Lib.hid (belG HB.out hb HB.out.size)
    have nR0 := Lib.hid ((R0.out.below hb (Nat.le_refl _)).more hb.size)
    have nR1 := Lib.hid ((R1.out.below hb (Nat.le_refl _)).more hb.size)
    have nG3 := Lib.hid (oldG G3.out hb (Nat.le_refl _))
    clear hb
    clear HB R0 R1 G3
    have HB := nHB
    have R0 := nR0
    have R1 := nR1
    have G3 := nG3
    clear nHB nR0 nR1 nG3
    go_wp2_with (first | (refine loadHb _ (.tmp 3) g3 x h G3.out rfl rfl rfl ?_))
    refine (CR.out _ HB.out R0.out).mono ?_
    rintro e w4 ⟨rfl, hb⟩
    have nHB := Lib.hid (belG HB.out hb HB.out.size)
    have nR0 := Lib.hid ((R0.out.below hb (Nat.le_refl _)).more hb.size)
    have nR1 := Lib.hid ((R1.out.below hb (Nat.le_refl _)).more hb.size)
    have nG3 := Lib.hid (oldG G3.out hb (Nat.le_refl _))
    clear hb
    clear HB R0 R1 G3
    have HB := nHB
    have R0 := nR0
    have R1 := nR1
    have G3 := nG3
    clear nHB nR0 nR1 nG3
    go_wp2_with (first | (refine loadHb _ (.tmp 3) g3 x h G3.out rfl rfl rfl ?_))
    go_ret
    exact ⟨rfl, HB.out⟩
  clear R0 R1 HL CF CR
  by_cases hcv : 0 ≤ c ∧ c < 4
  case neg => exact hubApart_a x h c B v d o W hl hr hc hd hdm hrb ho h1 hR h2 hcv
  obtain ⟨p, rfl⟩ := Int.eq_ofNat_of_zero_le hcv.1
  have hp4 : p < 4 := by omega
  by_cases hqp : (o % 4).toNat = p
  · cases hu : h.up p with
    | true => exact hubApart_b x h p B v d o W hl hr hc hd hdm hrb ho h1 hR h2 hp4 hu hqp
    | false => exact hubApart_d x h p B v d o W hl hr hc hd hdm hrb ho h1 hR h2 hp4 hu hqp
  · cases hu : h.up p with
    | true => exact hubApart_c x h p B v d o W hl hr hc hd hdm hrb ho h1 hR h2 hp4 hu hqp
    | false => exact hubApart_e x h p B v d o W hl hr hc hd hdm hrb ho h1 hR h2 hp4 hu hqp
end Go.Proofs.Ytplekllhnpljiaa
