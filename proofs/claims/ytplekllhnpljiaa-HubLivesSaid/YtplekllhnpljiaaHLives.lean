
/- HubLives' walk. -/
import Derived.Test.YtplekllhnpljiaaJ30
namespace Go.Proofs.Ytplekllhnpljiaa
open Go.RowKit

set_option maxRecDepth 100000 in
set_option maxHeartbeats 4000000 in
theorem hubLives_walk (x : Wh) (h : Hb) (o : Int) (A : Option Addr) (a : List UInt8) (j : Nat) (B : Option Addr) (l : List UInt8) (k : Nat) (W : World) (hl : Hb64 h) (hr : HubR W x h) (ho : 0 ≤ o ∧ o ≤ 255) (ha : a.length ≤ j) (hj : j ≤ 9223372036854775807) (hra : Rd W W.heap.size A a) (hk : l.length ≤ k) (hkm : k ≤ 9223372036854775807) (hrb : Rd W W.heap.size B l) :
    Calls Try.prog 7 #[.agg (hubCw x h (.int .u8 o) (.slice A a.length j) (.slice B l.length k))] W fun e W' => e = .returned (.bool true) ∧ Below W.heap.size W W' := by
  have R0 := Lib.hid hr
  have R1 := Lib.hid hra
  have R2 := Lib.hid hrb
  have HL := Lib.hid hl
  have CF := Lib.hid (fun w => refFew_any x h w)
  have CR := Lib.hid (fun w (hB : Below W.heap.size W w) (r0 : HubR w x h) => refRight9_any x h w r0)
  by_cases h1 : fewH h
  case neg =>
    rw [decide_eq_false h1] at CF
    obtain ⟨n, hn⟩ : ∃ n, n = a.length := ⟨_, rfl⟩
    obtain ⟨m, hm⟩ : ∃ m, m = l.length := ⟨_, rfl⟩
    rw [← hn, ← hm]
    clear hl hr ho ha hj hra hk hkm hrb hn hm
    obtain ⟨C, hC⟩ : ∃ C, C = hubCw x h (.int .u8 o) (.slice A n j) (.slice B m k) := ⟨_, rfl⟩
    have hb := (Below.refl W.heap.size W).alloc (Nat.le_refl _) (.cells C 55)
    have hg := heap_alloc_new W (.cells C 55)
    obtain ⟨V0, hV⟩ : ∃ V, V = W.alloc (.cells C 55) := ⟨_, rfl⟩
    rw [← hV] at hb hg
    have HB := Lib.hid hb
    have hgw : V0.heap[W.heap.size]? = some (.cells (hubCw x h (.int .u8 o) (.slice A n j) (.slice B m k)) 55 (0, 0)) := by rw [← hC]; exact hg
    have GW := Lib.hid hgw
    rw [← hC]
    have nR0 := Lib.hid ((R0.out.below hb (Nat.le_refl _)).more hb.size)
    have nR1 := Lib.hid ((R1.out.below hb (Nat.le_refl _)).more hb.size)
    have nR2 := Lib.hid ((R2.out.below hb (Nat.le_refl _)).more hb.size)
    have HV := Lib.hid hV
    clear hb hg hV hC hgw
    clear R0 R1 R2
    have R0 := nR0
    have R1 := nR1
    have R2 := nR2
    clear nR0 nR1 nR2
    go_enter Try.func7, Try.ntmps7
    go_upto_region 1 with (fail)
    rw [← HV.out]
    clear HV
    have PW := Lib.hid (show Below V0.heap.size V0 V0 from Below.refl _ _)
    have GWP := GW
    have LB := Lib.hid HB.out.size
    obtain ⟨V1, hV1⟩ : ∃ V, V = V0.alloc (.cells (hubC x h) 29) := ⟨_, rfl⟩
    have ha := (Below.refl V0.heap.size V0).alloc (Nat.le_refl _) (.cells (hubC x h) 29)
    have hg := heap_alloc_new V0 (.cells (hubC x h) 29)
    have nHB := Lib.hid (HB.out.alloc HB.out.size (.cells (hubC x h) 29))
    rw [← hV1] at ha hg nHB
    have nR0 := Lib.hid ((R0.out.below ha (Nat.le_refl _)).more ha.size)
    have nR1 := Lib.hid ((R1.out.below ha (Nat.le_refl _)).more ha.size)
    have nR2 := Lib.hid ((R2.out.below ha (Nat.le_refl _)).more ha.size)
    have nGW := Lib.hid (oldG GW.out ha (Nat.le_refl _))
    obtain ⟨g3, hg3⟩ : ∃ g, g = V0.heap.size := ⟨_, rfl⟩
    rw [← hg3] at hg
    have HXG3 := Lib.hid hg3
    have G3 := Lib.hid hg
    have HV := Lib.hid hV1
    clear ha hg hV1 hg3
    clear HB R0 R1 R2 GW
    have HB := nHB
    have R0 := nR0
    have R1 := nR1
    have R2 := nR2
    have GW := nGW
    clear nHB nR0 nR1 nR2 nGW
    have LEG3 := Lib.hid (show W.heap.size ≤ g3 from by rw [HXG3.out]; exact LB.out)
    clear LB
    go_upto_region 2 with (first | (refine loadHw _ (.tmp 27) W.heap.size _ x h _ _ _ GWP.out rfl rfl rfl ?_) | (refine storeHb _ (.tmp 3) (.tmp 28) _ x h _ (heap_alloc_new _ _) rfl rfl rfl rfl rfl ?_; rw [setRowG_fold]))
    rw [← HV.out]
    (try rw [← HXG3.out])
    clear HV HXG3
    have u0 := (cell_of_row _ _ 21 _ _ _ GW.out).trans (hubCw_a _ _ _ _ _)
    have u1 := (cell_of_row _ _ 22 _ _ _ GW.out).trans (hubCw_b _ _ _ _ _)
    have u2 := (cell_of_row _ _ 23 _ _ _ GW.out).trans (hubCw_c _ _ _ _ _)
    clear PW GWP
    go_wp2_with (first | (refine loadHb _ (.tmp 3) g3 x h G3.out rfl rfl rfl ?_))
    clear u0 u1 u2 GW
    refine (shown9_any _).mono ?_
    rintro e w2 ⟨rfl, hb⟩
    have nHB := Lib.hid (belG HB.out hb HB.out.size)
    have nR0 := Lib.hid ((R0.out.below hb (Nat.le_refl _)).more hb.size)
    have nR1 := Lib.hid ((R1.out.below hb (Nat.le_refl _)).more hb.size)
    have nR2 := Lib.hid ((R2.out.below hb (Nat.le_refl _)).more hb.size)
    have nG3 := Lib.hid (oldG G3.out hb (Nat.le_refl _))
    clear hb
    clear HB R0 R1 R2 G3
    have HB := nHB
    have R0 := nR0
    have R1 := nR1
    have R2 := nR2
    have G3 := nG3
    clear nHB nR0 nR1 nR2 nG3
    go_wp2_with (first | (refine loadHb _ (.tmp 3) g3 x h G3.out rfl rfl rfl ?_))
    refine (CF.out _).mono ?_
    rintro e w3 ⟨rfl, hb⟩
    have nHB := Lib.hid (belG HB.out hb HB.out.size)
    have nR0 := Lib.hid ((R0.out.below hb (Nat.le_refl _)).more hb.size)
    have nR1 := Lib.hid ((R1.out.below hb (Nat.le_refl _)).more hb.size)
    have nR2 := Lib.hid ((R2.out.below hb (Nat.le_refl _)).more hb.size)
    have nG3 := Lib.hid (oldG G3.out hb (Nat.le_refl _))
    clear hb
    clear HB R0 R1 R2 G3
    have HB := nHB
    have R0 := nR0
    have R1 := nR1
    have R2 := nR2
    have G3 := nG3
    clear nHB nR0 nR1 nR2 nG3
    go_wp2_with (first | (refine loadHb _ (.tmp 3) g3 x h G3.out rfl rfl rfl ?_))
    go_ret
    exact ⟨rfl, HB.out⟩
  rw [decide_eq_true h1] at CF
  by_cases hR : RightHb h
  case neg =>
    rw [decide_eq_false hR] at CR
    obtain ⟨n, hn⟩ : ∃ n, n = a.length := ⟨_, rfl⟩
    obtain ⟨m, hm⟩ : ∃ m, m = l.length := ⟨_, rfl⟩
    rw [← hn, ← hm]
    clear hl hr ho ha hj hra hk hkm hrb hn hm
    obtain ⟨C, hC⟩ : ∃ C, C = hubCw x h (.int .u8 o) (.slice A n j) (.slice B m k) := ⟨_, rfl⟩
    have hb := (Below.refl W.heap.size W).alloc (Nat.le_refl _) (.cells C 55)
    have hg := heap_alloc_new W (.cells C 55)
    obtain ⟨V0, hV⟩ : ∃ V, V = W.alloc (.cells C 55) := ⟨_, rfl⟩
    rw [← hV] at hb hg
    have HB := Lib.hid hb
    have hgw : V0.heap[W.heap.size]? = some (.cells (hubCw x h (.int .u8 o) (.slice A n j) (.slice B m k)) 55 (0, 0)) := by rw [← hC]; exact hg
    have GW := Lib.hid hgw
    rw [← hC]
    have nR0 := Lib.hid ((R0.out.below hb (Nat.le_refl _)).more hb.size)
    have nR1 := Lib.hid ((R1.out.below hb (Nat.le_refl _)).more hb.size)
    have nR2 := Lib.hid ((R2.out.below hb (Nat.le_refl _)).more hb.size)
    have HV := Lib.hid hV
    clear hb hg hV hC hgw
    clear R0 R1 R2
    have R0 := nR0
    have R1 := nR1
    have R2 := nR2
    clear nR0 nR1 nR2
    go_enter Try.func7, Try.ntmps7
    go_upto_region 1 with (fail)
    rw [← HV.out]
    clear HV
    have PW := Lib.hid (show Below V0.heap.size V0 V0 from Below.refl _ _)
    have GWP := GW
    have LB := Lib.hid HB.out.size
    obtain ⟨V1, hV1⟩ : ∃ V, V = V0.alloc (.cells (hubC x h) 29) := ⟨_, rfl⟩
    have ha := (Below.refl V0.heap.size V0).alloc (Nat.le_refl _) (.cells (hubC x h) 29)
    have hg := heap_alloc_new V0 (.cells (hubC x h) 29)
    have nHB := Lib.hid (HB.out.alloc HB.out.size (.cells (hubC x h) 29))
    rw [← hV1] at ha hg nHB
    have nR0 := Lib.hid ((R0.out.below ha (Nat.le_refl _)).more ha.size)
    have nR1 := Lib.hid ((R1.out.below ha (Nat.le_refl _)).more ha.size)
    have nR2 := Lib.hid ((R2.out.below ha (Nat.le_refl _)).more ha.size)
    have nGW := Lib.hid (oldG GW.out ha (Nat.le_refl _))
    obtain ⟨g3, hg3⟩ : ∃ g, g = V0.heap.size := ⟨_, rfl⟩
    rw [← hg3] at hg
    have HXG3 := Lib.hid hg3
    have G3 := Lib.hid hg
    have HV := Lib.hid hV1
    clear ha hg hV1 hg3
    clear HB R0 R1 R2 GW
    have HB := nHB
    have R0 := nR0
    have R1 := nR1
    have R2 := nR2
    have GW := nGW
    clear nHB nR0 nR1 nR2 nGW
    have LEG3 := Lib.hid (show W.heap.size ≤ g3 from by rw [HXG3.out]; exact LB.out)
    clear LB
    go_upto_region 2 with (first | (refine loadHw _ (.tmp 27) W.heap.size _ x h _ _ _ GWP.out rfl rfl rfl ?_) | (refine storeHb _ (.tmp 3) (.tmp 28) _ x h _ (heap_alloc_new _ _) rfl rfl rfl rfl rfl ?_; rw [setRowG_fold]))
    rw [← HV.out]
    (try rw [← HXG3.out])
    clear HV HXG3
    have u0 := (cell_of_row _ _ 21 _ _ _ GW.out).trans (hubCw_a _ _ _ _ _)
    have u1 := (cell_of_row _ _ 22 _ _ _ GW.out).trans (hubCw_b _ _ _ _ _)
    have u2 := (cell_of_row _ _ 23 _ _ _ GW.out).trans (hubCw_c _ _ _ _ _)
    clear PW GWP
    go_wp2_with (first | (refine loadHb _ (.tmp 3) g3 x h G3.out rfl rfl rfl ?_))
    clear u0 u1 u2 GW
    refine (shown9_any _).mono ?_
    rintro e w2 ⟨rfl, hb⟩
    have nHB := Lib.hid (belG HB.out hb HB.out.size)
    have nR0 := Lib.hid ((R0.out.below hb (Nat.le_refl _)).more hb.size)
    have nR1 := Lib.hid ((R1.out.below hb (Nat.le_refl _)).more hb.size)
    have nR2 := Lib.hid ((R2.out.below hb (Nat.le_refl _)).more hb.size)
    have nG3 := Lib.hid (oldG G3.out hb (Nat.le_refl _))
    clear hb
    clear HB R0 R1 R2 G3
    have HB := nHB
    have R0 := nR0
    have R1 := nR1
    have R2 := nR2
    have G3 := nG3
    clear nHB nR0 nR1 nR2 nG3
    go_wp2_with (first | (refine loadHb _ (.tmp 3) g3 x h G3.out rfl rfl rfl ?_))
    refine (CF.out _).mono ?_
    rintro e w3 ⟨rfl, hb⟩
    have nHB := Lib.hid (belG HB.out hb HB.out.size)
    have nR0 := Lib.hid ((R0.out.below hb (Nat.le_refl _)).more hb.size)
    have nR1 := Lib.hid ((R1.out.below hb (Nat.le_refl _)).more hb.size)
    have nR2 := Lib.hid ((R2.out.below hb (Nat.le_refl _)).more hb.size)
    have nG3 := Lib.hid (oldG G3.out hb (Nat.le_refl _))
    clear hb
    clear HB R0 R1 R2 G3
    have HB := nHB
    have R0 := nR0
    have R1 := nR1
    have R2 := nR2
    have G3 := nG3
    clear nHB nR0 nR1 nR2 nG3
    go_wp2_with (first | (refine loadHb _ (.tmp 3) g3 x h G3.out rfl rfl rfl ?_))
    refine (CR.out _ HB.out R0.out).mono ?_
    rintro e w4 ⟨rfl, hb⟩
    have nHB := Lib.hid (belG HB.out hb HB.out.size)
    have nR0 := Lib.hid ((R0.out.below hb (Nat.le_refl _)).more hb.size)
    have nR1 := Lib.hid ((R1.out.below hb (Nat.le_refl _)).more hb.size)
    have nR2 := Lib.hid ((R2.out.below hb (Nat.le_refl _)).more hb.size)
    have nG3 := Lib.hid (oldG G3.out hb (Nat.le_refl _))
    clear hb
    clear HB R0 R1 R2 G3
    have HB := nHB
    have R0 := nR0
    have R1 := nR1
    have R2 := nR2
    have G3 := nG3
    clear nHB nR0 nR1 nR2 nG3
    go_wp2_with (first | (refine loadHb _ (.tmp 3) g3 x h G3.out rfl rfl rfl ?_))
    go_ret
    exact ⟨rfl, HB.out⟩
  rw [decide_eq_true hR] at CR
  by_cases h2 : 1000 < a.length
  case pos =>
    have i0 : (1000 : Int) < (a.length : Int) := by omega
    obtain ⟨n, hn⟩ : ∃ n, n = a.length := ⟨_, rfl⟩
    obtain ⟨m, hm⟩ : ∃ m, m = l.length := ⟨_, rfl⟩
    rw [← hn, ← hm]
    rw [← hn] at i0
    clear hl hr ho ha hj hra hk hkm hrb hn hm h2
    obtain ⟨C, hC⟩ : ∃ C, C = hubCw x h (.int .u8 o) (.slice A n j) (.slice B m k) := ⟨_, rfl⟩
    have hb := (Below.refl W.heap.size W).alloc (Nat.le_refl _) (.cells C 55)
    have hg := heap_alloc_new W (.cells C 55)
    obtain ⟨V0, hV⟩ : ∃ V, V = W.alloc (.cells C 55) := ⟨_, rfl⟩
    rw [← hV] at hb hg
    have HB := Lib.hid hb
    have hgw : V0.heap[W.heap.size]? = some (.cells (hubCw x h (.int .u8 o) (.slice A n j) (.slice B m k)) 55 (0, 0)) := by rw [← hC]; exact hg
    have GW := Lib.hid hgw
    rw [← hC]
    have nR0 := Lib.hid ((R0.out.below hb (Nat.le_refl _)).more hb.size)
    have nR1 := Lib.hid ((R1.out.below hb (Nat.le_refl _)).more hb.size)
    have nR2 := Lib.hid ((R2.out.below hb (Nat.le_refl _)).more hb.size)
    have HV := Lib.hid hV
    clear hb hg hV hC hgw
    clear R0 R1 R2
    have R0 := nR0
    have R1 := nR1
    have R2 := nR2
    clear nR0 nR1 nR2
    go_enter Try.func7, Try.ntmps7
    go_upto_region 1 with (fail)
    rw [← HV.out]
    clear HV
    have PW := Lib.hid (show Below V0.heap.size V0 V0 from Below.refl _ _)
    have GWP := GW
    have LB := Lib.hid HB.out.size
    obtain ⟨V1, hV1⟩ : ∃ V, V = V0.alloc (.cells (hubC x h) 29) := ⟨_, rfl⟩
    have ha := (Below.refl V0.heap.size V0).alloc (Nat.le_refl _) (.cells (hubC x h) 29)
    have hg := heap_alloc_new V0 (.cells (hubC x h) 29)
    have nHB := Lib.hid (HB.out.alloc HB.out.size (.cells (hubC x h) 29))
    rw [← hV1] at ha hg nHB
    have nR0 := Lib.hid ((R0.out.below ha (Nat.le_refl _)).more ha.size)
    have nR1 := Lib.hid ((R1.out.below ha (Nat.le_refl _)).more ha.size)
    have nR2 := Lib.hid ((R2.out.below ha (Nat.le_refl _)).more ha.size)
    have nGW := Lib.hid (oldG GW.out ha (Nat.le_refl _))
    obtain ⟨g3, hg3⟩ : ∃ g, g = V0.heap.size := ⟨_, rfl⟩
    rw [← hg3] at hg
    have HXG3 := Lib.hid hg3
    have G3 := Lib.hid hg
    have HV := Lib.hid hV1
    clear ha hg hV1 hg3
    clear HB R0 R1 R2 GW
    have HB := nHB
    have R0 := nR0
    have R1 := nR1
    have R2 := nR2
    have GW := nGW
    clear nHB nR0 nR1 nR2 nGW
    have LEG3 := Lib.hid (show W.heap.size ≤ g3 from by rw [HXG3.out]; exact LB.out)
    clear LB
    go_upto_region 2 with (first | (refine loadHw _ (.tmp 27) W.heap.size _ x h _ _ _ GWP.out rfl rfl rfl ?_) | (refine storeHb _ (.tmp 3) (.tmp 28) _ x h _ (heap_alloc_new _ _) rfl rfl rfl rfl rfl ?_; rw [setRowG_fold]))
    rw [← HV.out]
    (try rw [← HXG3.out])
    clear HV HXG3
    have u0 := (cell_of_row _ _ 21 _ _ _ GW.out).trans (hubCw_a _ _ _ _ _)
    have u1 := (cell_of_row _ _ 22 _ _ _ GW.out).trans (hubCw_b _ _ _ _ _)
    have u2 := (cell_of_row _ _ 23 _ _ _ GW.out).trans (hubCw_c _ _ _ _ _)
    clear PW GWP
    go_wp2_with (first | (refine loadHb _ (.tmp 3) g3 x h G3.out rfl rfl rfl ?_))
    clear u0 u1 u2 GW
    refine (shown9_any _).mono ?_
    rintro e w2 ⟨rfl, hb⟩
    have nHB := Lib.hid (belG HB.out hb HB.out.size)
    have nR0 := Lib.hid ((R0.out.below hb (Nat.le_refl _)).more hb.size)
    have nR1 := Lib.hid ((R1.out.below hb (Nat.le_refl _)).more hb.size)
    have nR2 := Lib.hid ((R2.out.below hb (Nat.le_refl _)).more hb.size)
    have nG3 := Lib.hid (oldG G3.out hb (Nat.le_refl _))
    clear hb
    clear HB R0 R1 R2 G3
    have HB := nHB
    have R0 := nR0
    have R1 := nR1
    have R2 := nR2
    have G3 := nG3
    clear nHB nR0 nR1 nR2 nG3
    go_wp2_with (first | (refine loadHb _ (.tmp 3) g3 x h G3.out rfl rfl rfl ?_))
    refine (CF.out _).mono ?_
    rintro e w3 ⟨rfl, hb⟩
    have nHB := Lib.hid (belG HB.out hb HB.out.size)
    have nR0 := Lib.hid ((R0.out.below hb (Nat.le_refl _)).more hb.size)
    have nR1 := Lib.hid ((R1.out.below hb (Nat.le_refl _)).more hb.size)
    have nR2 := Lib.hid ((R2.out.below hb (Nat.le_refl _)).more hb.size)
    have nG3 := Lib.hid (oldG G3.out hb (Nat.le_refl _))
    clear hb
    clear HB R0 R1 R2 G3
    have HB := nHB
    have R0 := nR0
    have R1 := nR1
    have R2 := nR2
    have G3 := nG3
    clear nHB nR0 nR1 nR2 nG3
    go_wp2_with (first | (refine loadHb _ (.tmp 3) g3 x h G3.out rfl rfl rfl ?_))
    refine (CR.out _ HB.out R0.out).mono ?_
    rintro e w4 ⟨rfl, hb⟩
    have nHB := Lib.hid (belG HB.out hb HB.out.size)
    have nR0 := Lib.hid ((R0.out.below hb (Nat.le_refl _)).more hb.size)
    have nR1 := Lib.hid ((R1.out.below hb (Nat.le_refl _)).more hb.size)
    have nR2 := Lib.hid ((R2.out.below hb (Nat.le_refl _)).more hb.size)
    have nG3 := Lib.hid (oldG G3.out hb (Nat.le_refl _))
    clear hb
    clear HB R0 R1 R2 G3
    have HB := nHB
    have R0 := nR0
    have R1 := nR1
    have R2 := nR2
    have G3 := nG3
    clear nHB nR0 nR1 nR2 nG3
    go_wp2_with (first | (refine loadHb _ (.tmp 3) g3 x h G3.out rfl rfl rfl ?_))
    go_ret
    exact ⟨rfl, HB.out⟩
  have i0 : ¬ (1000 : Int) < (a.length : Int) := by omega
  by_cases h3 : 1000 < l.length
  case pos =>
    have i1 : (1000 : Int) < (l.length : Int) := by omega
    obtain ⟨n, hn⟩ : ∃ n, n = a.length := ⟨_, rfl⟩
    obtain ⟨m, hm⟩ : ∃ m, m = l.length := ⟨_, rfl⟩
    rw [← hn, ← hm]
    rw [← hn] at i0
    rw [← hm] at i1
    clear hl hr ho ha hj hra hk hkm hrb hn hm h2 h3
    obtain ⟨C, hC⟩ : ∃ C, C = hubCw x h (.int .u8 o) (.slice A n j) (.slice B m k) := ⟨_, rfl⟩
    have hb := (Below.refl W.heap.size W).alloc (Nat.le_refl _) (.cells C 55)
    have hg := heap_alloc_new W (.cells C 55)
    obtain ⟨V0, hV⟩ : ∃ V, V = W.alloc (.cells C 55) := ⟨_, rfl⟩
    rw [← hV] at hb hg
    have HB := Lib.hid hb
    have hgw : V0.heap[W.heap.size]? = some (.cells (hubCw x h (.int .u8 o) (.slice A n j) (.slice B m k)) 55 (0, 0)) := by rw [← hC]; exact hg
    have GW := Lib.hid hgw
    rw [← hC]
    have nR0 := Lib.hid ((R0.out.below hb (Nat.le_refl _)).more hb.size)
    have nR1 := Lib.hid ((R1.out.below hb (Nat.le_refl _)).more hb.size)
    have nR2 := Lib.hid ((R2.out.below hb (Nat.le_refl _)).more hb.size)
    have HV := Lib.hid hV
    clear hb hg hV hC hgw
    clear R0 R1 R2
    have R0 := nR0
    have R1 := nR1
    have R2 := nR2
    clear nR0 nR1 nR2
    go_enter Try.func7, Try.ntmps7
    go_upto_region 1 with (fail)
    rw [← HV.out]
    clear HV
    have PW := Lib.hid (show Below V0.heap.size V0 V0 from Below.refl _ _)
    have GWP := GW
    have LB := Lib.hid HB.out.size
    obtain ⟨V1, hV1⟩ : ∃ V, V = V0.alloc (.cells (hubC x h) 29) := ⟨_, rfl⟩
    have ha := (Below.refl V0.heap.size V0).alloc (Nat.le_refl _) (.cells (hubC x h) 29)
    have hg := heap_alloc_new V0 (.cells (hubC x h) 29)
    have nHB := Lib.hid (HB.out.alloc HB.out.size (.cells (hubC x h) 29))
    rw [← hV1] at ha hg nHB
    have nR0 := Lib.hid ((R0.out.below ha (Nat.le_refl _)).more ha.size)
    have nR1 := Lib.hid ((R1.out.below ha (Nat.le_refl _)).more ha.size)
    have nR2 := Lib.hid ((R2.out.below ha (Nat.le_refl _)).more ha.size)
    have nGW := Lib.hid (oldG GW.out ha (Nat.le_refl _))
    obtain ⟨g3, hg3⟩ : ∃ g, g = V0.heap.size := ⟨_, rfl⟩
    rw [← hg3] at hg
    have HXG3 := Lib.hid hg3
    have G3 := Lib.hid hg
    have HV := Lib.hid hV1
    clear ha hg hV1 hg3
    clear HB R0 R1 R2 GW
    have HB := nHB
    have R0 := nR0
    have R1 := nR1
    have R2 := nR2
    have GW := nGW
    clear nHB nR0 nR1 nR2 nGW
    have LEG3 := Lib.hid (show W.heap.size ≤ g3 from by rw [HXG3.out]; exact LB.out)
    clear LB
    go_upto_region 2 with (first | (refine loadHw _ (.tmp 27) W.heap.size _ x h _ _ _ GWP.out rfl rfl rfl ?_) | (refine storeHb _ (.tmp 3) (.tmp 28) _ x h _ (heap_alloc_new _ _) rfl rfl rfl rfl rfl ?_; rw [setRowG_fold]))
    rw [← HV.out]
    (try rw [← HXG3.out])
    clear HV HXG3
    have u0 := (cell_of_row _ _ 21 _ _ _ GW.out).trans (hubCw_a _ _ _ _ _)
    have u1 := (cell_of_row _ _ 22 _ _ _ GW.out).trans (hubCw_b _ _ _ _ _)
    have u2 := (cell_of_row _ _ 23 _ _ _ GW.out).trans (hubCw_c _ _ _ _ _)
    clear PW GWP
    go_wp2_with (first | (refine loadHb _ (.tmp 3) g3 x h G3.out rfl rfl rfl ?_))
    clear u0 u1 u2 GW
    refine (shown9_any _).mono ?_
    rintro e w2 ⟨rfl, hb⟩
    have nHB := Lib.hid (belG HB.out hb HB.out.size)
    have nR0 := Lib.hid ((R0.out.below hb (Nat.le_refl _)).more hb.size)
    have nR1 := Lib.hid ((R1.out.below hb (Nat.le_refl _)).more hb.size)
    have nR2 := Lib.hid ((R2.out.below hb (Nat.le_refl _)).more hb.size)
    have nG3 := Lib.hid (oldG G3.out hb (Nat.le_refl _))
    clear hb
    clear HB R0 R1 R2 G3
    have HB := nHB
    have R0 := nR0
    have R1 := nR1
    have R2 := nR2
    have G3 := nG3
    clear nHB nR0 nR1 nR2 nG3
    go_wp2_with (first | (refine loadHb _ (.tmp 3) g3 x h G3.out rfl rfl rfl ?_))
    refine (CF.out _).mono ?_
    rintro e w3 ⟨rfl, hb⟩
    have nHB := Lib.hid (belG HB.out hb HB.out.size)
    have nR0 := Lib.hid ((R0.out.below hb (Nat.le_refl _)).more hb.size)
    have nR1 := Lib.hid ((R1.out.below hb (Nat.le_refl _)).more hb.size)
    have nR2 := Lib.hid ((R2.out.below hb (Nat.le_refl _)).more hb.size)
    have nG3 := Lib.hid (oldG G3.out hb (Nat.le_refl _))
    clear hb
    clear HB R0 R1 R2 G3
    have HB := nHB
    have R0 := nR0
    have R1 := nR1
    have R2 := nR2
    have G3 := nG3
    clear nHB nR0 nR1 nR2 nG3
    go_wp2_with (first | (refine loadHb _ (.tmp 3) g3 x h G3.out rfl rfl rfl ?_))
    refine (CR.out _ HB.out R0.out).mono ?_
    rintro e w4 ⟨rfl, hb⟩
    have nHB := Lib.hid (belG HB.out hb HB.out.size)
    have nR0 := Lib.hid ((R0.out.below hb (Nat.le_refl _)).more hb.size)
    have nR1 := Lib.hid ((R1.out.below hb (Nat.le_refl _)).more hb.size)
    have nR2 := Lib.hid ((R2.out.below hb (Nat.le_refl _)).more hb.size)
    have nG3 := Lib.hid (oldG G3.out hb (Nat.le_refl _))
    clear hb
    clear HB R0 R1 R2 G3
    have HB := nHB
    have R0 := nR0
    have R1 := nR1
    have R2 := nR2
    have G3 := nG3
    clear nHB nR0 nR1 nR2 nG3
    go_wp2_with (first | (refine loadHb _ (.tmp 3) g3 x h G3.out rfl rfl rfl ?_))
    go_ret
    exact ⟨rfl, HB.out⟩
  have i1 : ¬ (1000 : Int) < (l.length : Int) := by omega
  obtain ⟨q, hq⟩ : ∃ q : Nat, q = (o % 4).toNat := ⟨_, rfl⟩
  have hq4 : q < 4 := by omega
  have hq0 : o % 4 = (q : Int) := by omega
  have hq1 : o.tmod 4 = (q : Int) := by rw [Int.tmod_eq_emod_of_nonneg ho.1]; exact hq0
  have hq2 : (0 : Int) ≤ (q : Int) := by omega
  have hq3 : (q : Int) < 4 := by omega
  have ho1 := ho.1
  have ho2 := ho.2
  have HA := Lib.hid (And.intro ha hj)
  have HK := Lib.hid (And.intro hk hkm)
  have HLA := Lib.hid (show a.length ≤ 50000 by omega)
  have HLB := Lib.hid (show l.length ≤ 50000 by omega)
  have HRT := Lib.hid hR
  have HUQ := Lib.hid (hubC_up x h hq4)
  obtain ⟨n, hn⟩ : ∃ n, n = a.length := ⟨_, rfl⟩
  obtain ⟨m, hm⟩ : ∃ m, m = l.length := ⟨_, rfl⟩
  rw [← hn, ← hm]
  have HN := Lib.hid hn
  have HM := Lib.hid hm
  rw [← hn] at i0
  rw [← hm] at i1
  clear hl hr ho ha hj hra hk hkm hrb hn hm hq h1 h2 h3 hR
  cases hu : h.up q with
  | true =>
    rw [hu] at HUQ
    have rH : RightHb h := HRT.out
    have bH : Hb64 h := HL.out
    have uH : h.up q = true := hu
    clear hu
    obtain ⟨P1, hP1⟩ : ∃ P, P = pushH h q a := ⟨_, rfl⟩
    obtain ⟨Q1, hQ1⟩ : ∃ P, P = cutH P1 q := ⟨_, rfl⟩
    obtain ⟨S1, hS1⟩ : ∃ P, P = raiseH Q1 q := ⟨_, rfl⟩
    have rP : RightHb P1 := by rw [hP1]; exact push_right rH hq4 uH a
    have bP : Hb64 P1 := by rw [hP1]; exact push_64 bH rH hq4 a
    have rQ : RightHb Q1 := by rw [hQ1]; exact cut_right rP q
    have bQ : Hb64 Q1 := by rw [hQ1]; exact cut_64 bP q
    have rS : RightHb S1 := by rw [hS1]; exact raise_right rQ q
    have bS : Hb64 S1 := by rw [hS1]; exact raise_64 bQ q
    have uP : P1.up q = true := by rw [hP1]; exact uH
    have uQ : Q1.up q = false := by rw [hQ1]; exact upd_same _ _ _
    have uS : S1.up q = true := by rw [hS1]; exact upd_same _ _ _
    have fS : S1.fd q = fd0 := by rw [hS1]; exact upd_same _ _ _
    have lS : S1.life q = wrap64 (h.life q + 1) := by
      rw [hS1]
      show upd Q1.life q (wrap64 (Q1.life q + 1)) q = _
      rw [upd_same, hQ1, hP1]
      rfl
    have hrw : (pushF fd0 l).2.length ≤ 100000 := by have h1 := push_len l fd0; have h2 := HLB.out; omega
    have C1 := Lib.hid (fun (y : Wh) w (r0 : HubR w y h) (r1 : Rd w w.heap.size A a) => (show Calls Try.prog 22 #[.agg (hubC y h), .int .i64 (q : Nat), .slice A n j] w fun e W' => AnsPu W' e (P1, (pushF (h.fd q) a).2, 0) ∧ Below w.heap.size w W' from by
      have h9 := hPush_any y h (q : Nat) A a j w rH bH r0 (b64_nat hq4) HLA.out HA.out.1 HA.out.2 r1
      rw [push_lives uH hq4, ← HN.out, ← hP1] at h9
      exact h9))
    have C2 := Lib.hid (fun (y : Wh) w (r0 : HubR w y P1) => (show Calls Try.prog 20 #[.agg (hubC y P1), .int .i64 (q : Nat)] w fun e W' => AnsHb W' e Q1 0 ∧ Below w.heap.size w W' from by
      have h9 := hCut_any y P1 (q : Nat) w rP bP r0 (b64_nat hq4)
      rw [cut_lives uP hq4, ← hQ1] at h9
      exact h9))
    have C3 := Lib.hid (fun (y : Wh) w (r0 : HubR w y Q1) (r1 : Rd w w.heap.size B l) => (show Calls Try.prog 22 #[.agg (hubC y Q1), .int .i64 (q : Nat), .slice B m k] w fun e W' => AnsPu W' e (Q1, [], 11) ∧ Below w.heap.size w W' from by
      have h9 := hPush_any y Q1 (q : Nat) B l k w rQ bQ r0 (b64_nat hq4) HLB.out HK.out.1 HK.out.2 r1
      rw [push_down uQ hq4, ← HM.out] at h9
      exact h9))
    have C4 := Lib.hid (fun (y : Wh) w (r0 : HubR w y Q1) => (show Calls Try.prog 18 #[.agg (hubC y Q1), .int .i64 (q : Nat)] w fun e W' => AnsHb W' e S1 0 ∧ Below w.heap.size w W' from by
      have h9 := hRaise_any y Q1 (q : Nat) w rQ bQ r0 (b64_nat hq4)
      rw [raise_lives uQ hq4, ← hS1] at h9
      exact h9))
    have C5 := Lib.hid (fun (y : Wh) w (r0 : HubR w y S1) (r1 : Rd w w.heap.size B l) => (show Calls Try.prog 22 #[.agg (hubC y S1), .int .i64 (q : Nat), .slice B m k] w fun e W' => AnsPu W' e (pushH S1 q l, (pushF fd0 l).2, 0) ∧ Below w.heap.size w W' from by
      have h9 := hPush_any y S1 (q : Nat) B l k w rS bS r0 (b64_nat hq4) HLB.out HK.out.1 HK.out.2 r1
      rw [push_lives uS hq4, ← HM.out, fS] at h9
      exact h9))
    have C6 := Lib.hid (fun w (r1 : Rd w w.heap.size B l) => (show Calls Try.prog 26 #[.agg #[.slice none 0 0, .int .i64 0, .int .i64 0], .slice B m k] w fun e W' => AnsPush W' e (pushF fd0 l).1 (pushF fd0 l).2 ∧ Below w.heap.size w W' from by
      have h9 := refPush_any none [] 0 0 0 B l k w right_fd0 (Nat.le_refl _) (by decide) Rd.nil (by have := HLB.out; omega) r1
      rw [← HM.out] at h9
      exact h9))
    have CM := Lib.hid (fun (A1 A2 : Option Addr) (c1 c2 : Nat) w (k1 : Mat w w.heap.size A1 (pushF fd0 l).2) (k2 : Mat w w.heap.size A2 (pushF fd0 l).2) => rows2_any A1 A2 (pushF fd0 l).2 (pushF fd0 l).2 c1 c2 w k1 k2 hrw hrw)
    have CE := Lib.hid (fun (y : Wh) w (r0 : HubR w y S1) => (show Calls Try.prog 27 #[.agg #[slH y S1 q, .int .i64 (S1.fd q).skip, .int .i64 (S1.fd q).bad], .agg #[.slice none 0 0, .int .i64 0, .int .i64 0]] w fun e W' => e = .returned (.bool true) ∧ Below w.heap.size w W' from by
      have h9 := refSame8_any (y q).1 none (S1.fd q).buf [] (y q).2 0 (S1.fd q).skip (S1.fd q).bad 0 0 w (r0 q hq4).2.2 Rd.nil
      rw [decide_eq_true (by rw [fS]; exact ⟨rfl, rfl, rfl⟩)] at h9
      exact h9))
    simp only [decide_true] at CM
    unfold AnsPu at C1 C3 C5
    unfold AnsHb at C2 C4
    unfold AnsPush at C6
    simp only [List.length_nil] at C3
    have HLS := Lib.hid (show wrap64 (h.life q + 1) = S1.life q from lS.symm)
    have HSU := Lib.hid uS
    have HQU := Lib.hid uQ
    generalize (pushF (h.fd q) a).2 = rs1 at *
    generalize (pushF fd0 l).2.length = nr at *
    generalize (pushF fd0 l).2 = rs2 at *
    generalize (pushF fd0 l).1 = fd9 at *
    generalize pushH S1 q l = H9 at *
    clear hP1 hQ1 hS1 rP bP rQ bQ rS bS uP uQ uS fS lS hrw rH bH uH
    obtain ⟨C, hC⟩ : ∃ C, C = hubCw x h (.int .u8 o) (.slice A n j) (.slice B m k) := ⟨_, rfl⟩
    have hb := (Below.refl W.heap.size W).alloc (Nat.le_refl _) (.cells C 55)
    have hg := heap_alloc_new W (.cells C 55)
    obtain ⟨V0, hV⟩ : ∃ V, V = W.alloc (.cells C 55) := ⟨_, rfl⟩
    rw [← hV] at hb hg
    have HB := Lib.hid hb
    have hgw : V0.heap[W.heap.size]? = some (.cells (hubCw x h (.int .u8 o) (.slice A n j) (.slice B m k)) 55 (0, 0)) := by rw [← hC]; exact hg
    have GW := Lib.hid hgw
    rw [← hC]
    have nR0 := Lib.hid ((R0.out.below hb (Nat.le_refl _)).more hb.size)
    have nR1 := Lib.hid ((R1.out.below hb (Nat.le_refl _)).more hb.size)
    have nR2 := Lib.hid ((R2.out.below hb (Nat.le_refl _)).more hb.size)
    have HV := Lib.hid hV
    clear hb hg hV hC hgw
    clear R0 R1 R2
    have R0 := nR0
    have R1 := nR1
    have R2 := nR2
    clear nR0 nR1 nR2
    go_enter Try.func7, Try.ntmps7
    go_upto_region 1 with (fail)
    rw [← HV.out]
    clear HV
    have PW := Lib.hid (show Below V0.heap.size V0 V0 from Below.refl _ _)
    have GWP := GW
    have LB := Lib.hid HB.out.size
    obtain ⟨V1, hV1⟩ : ∃ V, V = V0.alloc (.cells (hubC x h) 29) := ⟨_, rfl⟩
    have ha := (Below.refl V0.heap.size V0).alloc (Nat.le_refl _) (.cells (hubC x h) 29)
    have hg := heap_alloc_new V0 (.cells (hubC x h) 29)
    have nHB := Lib.hid (HB.out.alloc HB.out.size (.cells (hubC x h) 29))
    rw [← hV1] at ha hg nHB
    have nR0 := Lib.hid ((R0.out.below ha (Nat.le_refl _)).more ha.size)
    have nR1 := Lib.hid ((R1.out.below ha (Nat.le_refl _)).more ha.size)
    have nR2 := Lib.hid ((R2.out.below ha (Nat.le_refl _)).more ha.size)
    have nGW := Lib.hid (oldG GW.out ha (Nat.le_refl _))
    obtain ⟨g3, hg3⟩ : ∃ g, g = V0.heap.size := ⟨_, rfl⟩
    rw [← hg3] at hg
    have HXG3 := Lib.hid hg3
    have G3 := Lib.hid hg
    have HV := Lib.hid hV1
    clear ha hg hV1 hg3
    clear HB R0 R1 R2 GW
    have HB := nHB
    have R0 := nR0
    have R1 := nR1
    have R2 := nR2
    have GW := nGW
    clear nHB nR0 nR1 nR2 nGW
    have LEG3 := Lib.hid (show W.heap.size ≤ g3 from by rw [HXG3.out]; exact LB.out)
    clear LB
    go_upto_region 2 with (first | (refine loadHw _ (.tmp 27) W.heap.size _ x h _ _ _ GWP.out rfl rfl rfl ?_) | (refine storeHb _ (.tmp 3) (.tmp 28) _ x h _ (heap_alloc_new _ _) rfl rfl rfl rfl rfl ?_; rw [setRowG_fold]))
    rw [← HV.out]
    (try rw [← HXG3.out])
    clear HV HXG3
    have u0 := (cell_of_row _ _ 21 _ _ _ GW.out).trans (hubCw_a _ _ _ _ _)
    have u1 := (cell_of_row _ _ 22 _ _ _ GW.out).trans (hubCw_b _ _ _ _ _)
    have u2 := (cell_of_row _ _ 23 _ _ _ GW.out).trans (hubCw_c _ _ _ _ _)
    clear PW GWP
    go_wp2_with (first | (refine loadHb _ (.tmp 3) g3 x h G3.out rfl rfl rfl ?_))
    clear u0 u1 u2 GW
    refine (shown9_any _).mono ?_
    rintro e w2 ⟨rfl, hb⟩
    have nHB := Lib.hid (belG HB.out hb HB.out.size)
    have nR0 := Lib.hid ((R0.out.below hb (Nat.le_refl _)).more hb.size)
    have nR1 := Lib.hid ((R1.out.below hb (Nat.le_refl _)).more hb.size)
    have nR2 := Lib.hid ((R2.out.below hb (Nat.le_refl _)).more hb.size)
    have nG3 := Lib.hid (oldG G3.out hb (Nat.le_refl _))
    clear hb
    clear HB R0 R1 R2 G3
    have HB := nHB
    have R0 := nR0
    have R1 := nR1
    have R2 := nR2
    have G3 := nG3
    clear nHB nR0 nR1 nR2 nG3
    go_wp2_with (first | (refine loadHb _ (.tmp 3) g3 x h G3.out rfl rfl rfl ?_))
    refine (CF.out _).mono ?_
    rintro e w3 ⟨rfl, hb⟩
    have nHB := Lib.hid (belG HB.out hb HB.out.size)
    have nR0 := Lib.hid ((R0.out.below hb (Nat.le_refl _)).more hb.size)
    have nR1 := Lib.hid ((R1.out.below hb (Nat.le_refl _)).more hb.size)
    have nR2 := Lib.hid ((R2.out.below hb (Nat.le_refl _)).more hb.size)
    have nG3 := Lib.hid (oldG G3.out hb (Nat.le_refl _))
    clear hb
    clear HB R0 R1 R2 G3
    have HB := nHB
    have R0 := nR0
    have R1 := nR1
    have R2 := nR2
    have G3 := nG3
    clear nHB nR0 nR1 nR2 nG3
    go_wp2_with (first | (refine loadHb _ (.tmp 3) g3 x h G3.out rfl rfl rfl ?_))
    refine (CR.out _ HB.out R0.out).mono ?_
    rintro e w4 ⟨rfl, hb⟩
    have nHB := Lib.hid (belG HB.out hb HB.out.size)
    have nR0 := Lib.hid ((R0.out.below hb (Nat.le_refl _)).more hb.size)
    have nR1 := Lib.hid ((R1.out.below hb (Nat.le_refl _)).more hb.size)
    have nR2 := Lib.hid ((R2.out.below hb (Nat.le_refl _)).more hb.size)
    have nG3 := Lib.hid (oldG G3.out hb (Nat.le_refl _))
    clear hb
    clear HB R0 R1 R2 G3
    have HB := nHB
    have R0 := nR0
    have R1 := nR1
    have R2 := nR2
    have G3 := nG3
    clear nHB nR0 nR1 nR2 nG3
    go_upto_region 9 with (first | (refine loadHb _ (.tmp 3) g3 x h G3.out rfl rfl rfl ?_))
    have G3P := G3
    have LB := Lib.hid HB.out.size
    have LTG3 := Lib.hid (show g3 < w4.heap.size from (Array.getElem?_eq_some_iff.1 G3.out).1)
    obtain ⟨V4, hV4⟩ : ∃ V, V = w4.alloc (.cells (hubC x h) 29) := ⟨_, rfl⟩
    have ha := (Below.refl w4.heap.size w4).alloc (Nat.le_refl _) (.cells (hubC x h) 29)
    have hg := heap_alloc_new w4 (.cells (hubC x h) 29)
    have nHB := Lib.hid (HB.out.alloc HB.out.size (.cells (hubC x h) 29))
    rw [← hV4] at ha hg nHB
    have nR0 := Lib.hid ((R0.out.below ha (Nat.le_refl _)).more ha.size)
    have nR1 := Lib.hid ((R1.out.below ha (Nat.le_refl _)).more ha.size)
    have nR2 := Lib.hid ((R2.out.below ha (Nat.le_refl _)).more ha.size)
    have nG3 := Lib.hid (oldG G3.out ha (Nat.le_refl _))
    obtain ⟨g9, hg9⟩ : ∃ g, g = w4.heap.size := ⟨_, rfl⟩
    rw [← hg9] at hg
    have HXG9 := Lib.hid hg9
    have G9 := Lib.hid hg
    have HV := Lib.hid hV4
    clear ha hg hV4 hg9
    clear HB R0 R1 R2 G3
    have HB := nHB
    have R0 := nR0
    have R1 := nR1
    have R2 := nR2
    have G3 := nG3
    clear nHB nR0 nR1 nR2 nG3
    have LEG9 := Lib.hid (show W.heap.size ≤ g9 from by rw [HXG9.out]; exact LB.out)
    have NEG3G9 := Lib.hid (show g3 ≠ g9 from by have h1 := LTG3.out; rw [HXG9.out]; omega)
    have NEG9G3 := Lib.hid (NEG3G9.out.symm)
    clear LB LTG3
    go_upto_region 10 with (first | (refine loadHb _ (.tmp 3) g3 x h G3P.out rfl rfl rfl ?_) | (refine storeHb _ (.tmp 9) (.tmp 58) _ x h _ (heap_alloc_new _ _) rfl rfl rfl rfl rfl ?_; rw [setRowG_fold]))
    rw [← HV.out]
    (try rw [← HXG9.out])
    clear HV HXG9
    clear G3P
    have y0 := BoxH.cell G3.out HUQ.out
    go_wp2_with (first | (refine loadHb _ (.tmp 3) g3 x h G3.out rfl rfl rfl ?_) | (refine loadHb _ (.tmp 9) g9 x h G9.out rfl rfl rfl ?_))
    clear y0
    refine (C1.out x _ R0.out R1.out).mono ?_
    rintro e w5 ⟨⟨xa, Aa, ca, rfl, ka, -, -, -⟩, hb⟩
    have nHB := Lib.hid (belG HB.out hb HB.out.size)
    have nR0 := Lib.hid ((R0.out.below hb (Nat.le_refl _)).more hb.size)
    have nR1 := Lib.hid ((R1.out.below hb (Nat.le_refl _)).more hb.size)
    have nR2 := Lib.hid ((R2.out.below hb (Nat.le_refl _)).more hb.size)
    have nG3 := Lib.hid (oldG G3.out hb (Nat.le_refl _))
    have nG9 := Lib.hid (oldG G9.out hb (Nat.le_refl _))
    clear hb
    clear HB R0 R1 R2 G3 G9
    have HB := nHB
    have R0 := nR0
    have R1 := nR1
    have R2 := nR2
    have G3 := nG3
    have G9 := nG9
    clear nHB nR0 nR1 nR2 nG3 nG9
    have RA1 := Lib.hid ka
    clear ka
    have LB := Lib.hid HB.out.size
    have LTG3 := Lib.hid (show g3 < w5.heap.size from (Array.getElem?_eq_some_iff.1 G3.out).1)
    have LTG9 := Lib.hid (show g9 < w5.heap.size from (Array.getElem?_eq_some_iff.1 G9.out).1)
    obtain ⟨V5, hV5⟩ : ∃ V, V = w5.alloc (.cells (hubC xa P1) 29) := ⟨_, rfl⟩
    have ha := (Below.refl w5.heap.size w5).alloc (Nat.le_refl _) (.cells (hubC xa P1) 29)
    have hg := heap_alloc_new w5 (.cells (hubC xa P1) 29)
    have nHB := Lib.hid (HB.out.alloc HB.out.size (.cells (hubC xa P1) 29))
    rw [← hV5] at ha hg nHB
    have nR0 := Lib.hid ((R0.out.below ha (Nat.le_refl _)).more ha.size)
    have nR1 := Lib.hid ((R1.out.below ha (Nat.le_refl _)).more ha.size)
    have nR2 := Lib.hid ((R2.out.below ha (Nat.le_refl _)).more ha.size)
    have nRA1 := Lib.hid ((RA1.out.below ha (Nat.le_refl _)).more ha.size)
    have nG3 := Lib.hid (oldG G3.out ha (Nat.le_refl _))
    have nG9 := Lib.hid (oldG G9.out ha (Nat.le_refl _))
    obtain ⟨ga, hga⟩ : ∃ g, g = w5.heap.size := ⟨_, rfl⟩
    rw [← hga] at hg
    have HXGA := Lib.hid hga
    have GA := Lib.hid hg
    have HV := Lib.hid hV5
    clear ha hg hV5 hga
    clear HB R0 R1 R2 RA1 G3 G9
    have HB := nHB
    have R0 := nR0
    have R1 := nR1
    have R2 := nR2
    have RA1 := nRA1
    have G3 := nG3
    have G9 := nG9
    clear nHB nR0 nR1 nR2 nRA1 nG3 nG9
    have LEGA := Lib.hid (show W.heap.size ≤ ga from by rw [HXGA.out]; exact LB.out)
    have NEG3GA := Lib.hid (show g3 ≠ ga from by have h1 := LTG3.out; rw [HXGA.out]; omega)
    have NEGAG3 := Lib.hid (NEG3GA.out.symm)
    have NEG9GA := Lib.hid (show g9 ≠ ga from by have h1 := LTG9.out; rw [HXGA.out]; omega)
    have NEGAG9 := Lib.hid (NEG9GA.out.symm)
    clear LB LTG3 LTG9
    go_upto_region 16 with (refine storeHb _ (.tmp 12) (.tmp 78) _ xa P1 _ (heap_alloc_new _ _) rfl rfl rfl rfl rfl ?_; rw [setRowG_fold])
    rw [← HV.out]
    (try rw [← HXGA.out])
    clear HV HXGA
    go_wp2_with (first | (refine loadHb _ (.tmp 3) g3 x h G3.out rfl rfl rfl ?_) | (refine loadHb _ (.tmp 9) g9 x h G9.out rfl rfl rfl ?_) | (refine loadHb _ (.tmp 12) ga xa P1 GA.out rfl rfl rfl ?_))
    refine (C2.out xa _ RA1.out).mono ?_
    rintro e w6 ⟨⟨xb, rfl, kb⟩, hb⟩
    have nHB := Lib.hid (belG HB.out hb HB.out.size)
    have nR0 := Lib.hid ((R0.out.below hb (Nat.le_refl _)).more hb.size)
    have nR1 := Lib.hid ((R1.out.below hb (Nat.le_refl _)).more hb.size)
    have nR2 := Lib.hid ((R2.out.below hb (Nat.le_refl _)).more hb.size)
    have nRA1 := Lib.hid ((RA1.out.below hb (Nat.le_refl _)).more hb.size)
    have nG3 := Lib.hid (oldG G3.out hb (Nat.le_refl _))
    have nG9 := Lib.hid (oldG G9.out hb (Nat.le_refl _))
    have nGA := Lib.hid (oldG GA.out hb (Nat.le_refl _))
    clear hb
    clear HB R0 R1 R2 RA1 G3 G9 GA
    have HB := nHB
    have R0 := nR0
    have R1 := nR1
    have R2 := nR2
    have RA1 := nRA1
    have G3 := nG3
    have G9 := nG9
    have GA := nGA
    clear nHB nR0 nR1 nR2 nRA1 nG3 nG9 nGA
    have RB1 := Lib.hid kb
    clear kb
    have LB := Lib.hid HB.out.size
    have LTG3 := Lib.hid (show g3 < w6.heap.size from (Array.getElem?_eq_some_iff.1 G3.out).1)
    have LTG9 := Lib.hid (show g9 < w6.heap.size from (Array.getElem?_eq_some_iff.1 G9.out).1)
    have LTGA := Lib.hid (show ga < w6.heap.size from (Array.getElem?_eq_some_iff.1 GA.out).1)
    obtain ⟨V6, hV6⟩ : ∃ V, V = w6.alloc (.cells (hubC xb Q1) 29) := ⟨_, rfl⟩
    have ha := (Below.refl w6.heap.size w6).alloc (Nat.le_refl _) (.cells (hubC xb Q1) 29)
    have hg := heap_alloc_new w6 (.cells (hubC xb Q1) 29)
    have nHB := Lib.hid (HB.out.alloc HB.out.size (.cells (hubC xb Q1) 29))
    rw [← hV6] at ha hg nHB
    have nR0 := Lib.hid ((R0.out.below ha (Nat.le_refl _)).more ha.size)
    have nR1 := Lib.hid ((R1.out.below ha (Nat.le_refl _)).more ha.size)
    have nR2 := Lib.hid ((R2.out.below ha (Nat.le_refl _)).more ha.size)
    have nRA1 := Lib.hid ((RA1.out.below ha (Nat.le_refl _)).more ha.size)
    have nRB1 := Lib.hid ((RB1.out.below ha (Nat.le_refl _)).more ha.size)
    have nG3 := Lib.hid (oldG G3.out ha (Nat.le_refl _))
    have nG9 := Lib.hid (oldG G9.out ha (Nat.le_refl _))
    have nGA := Lib.hid (oldG GA.out ha (Nat.le_refl _))
    obtain ⟨gb, hgb⟩ : ∃ g, g = w6.heap.size := ⟨_, rfl⟩
    rw [← hgb] at hg
    have HXGB := Lib.hid hgb
    have GB := Lib.hid hg
    have HV := Lib.hid hV6
    clear ha hg hV6 hgb
    clear HB R0 R1 R2 RA1 RB1 G3 G9 GA
    have HB := nHB
    have R0 := nR0
    have R1 := nR1
    have R2 := nR2
    have RA1 := nRA1
    have RB1 := nRB1
    have G3 := nG3
    have G9 := nG9
    have GA := nGA
    clear nHB nR0 nR1 nR2 nRA1 nRB1 nG3 nG9 nGA
    have LEGB := Lib.hid (show W.heap.size ≤ gb from by rw [HXGB.out]; exact LB.out)
    have NEG3GB := Lib.hid (show g3 ≠ gb from by have h1 := LTG3.out; rw [HXGB.out]; omega)
    have NEGBG3 := Lib.hid (NEG3GB.out.symm)
    have NEG9GB := Lib.hid (show g9 ≠ gb from by have h1 := LTG9.out; rw [HXGB.out]; omega)
    have NEGBG9 := Lib.hid (NEG9GB.out.symm)
    have NEGAGB := Lib.hid (show ga ≠ gb from by have h1 := LTGA.out; rw [HXGB.out]; omega)
    have NEGBGA := Lib.hid (NEGAGB.out.symm)
    clear LB LTG3 LTG9 LTGA
    go_upto_region 17 with (refine storeHb _ (.tmp 15) (.tmp 85) _ xb Q1 _ (heap_alloc_new _ _) rfl rfl rfl rfl rfl ?_; rw [setRowG_fold])
    rw [← HV.out]
    (try rw [← HXGB.out])
    clear HV HXGB
    go_wp2_with (first | (refine loadHb _ (.tmp 3) g3 x h G3.out rfl rfl rfl ?_) | (refine loadHb _ (.tmp 9) g9 x h G9.out rfl rfl rfl ?_) | (refine loadHb _ (.tmp 12) ga xa P1 GA.out rfl rfl rfl ?_) | (refine loadHb _ (.tmp 15) gb xb Q1 GB.out rfl rfl rfl ?_))
    refine (C3.out xb _ RB1.out R2.out).mono ?_
    rintro e w7 ⟨⟨xc, Ac, cc, rfl, kc, -, -, -⟩, hb⟩
    have nHB := Lib.hid (belG HB.out hb HB.out.size)
    have nR0 := Lib.hid ((R0.out.below hb (Nat.le_refl _)).more hb.size)
    have nR1 := Lib.hid ((R1.out.below hb (Nat.le_refl _)).more hb.size)
    have nR2 := Lib.hid ((R2.out.below hb (Nat.le_refl _)).more hb.size)
    have nRA1 := Lib.hid ((RA1.out.below hb (Nat.le_refl _)).more hb.size)
    have nRB1 := Lib.hid ((RB1.out.below hb (Nat.le_refl _)).more hb.size)
    have nG3 := Lib.hid (oldG G3.out hb (Nat.le_refl _))
    have nG9 := Lib.hid (oldG G9.out hb (Nat.le_refl _))
    have nGA := Lib.hid (oldG GA.out hb (Nat.le_refl _))
    have nGB := Lib.hid (oldG GB.out hb (Nat.le_refl _))
    clear hb
    clear HB R0 R1 R2 RA1 RB1 G3 G9 GA GB
    have HB := nHB
    have R0 := nR0
    have R1 := nR1
    have R2 := nR2
    have RA1 := nRA1
    have RB1 := nRB1
    have G3 := nG3
    have G9 := nG9
    have GA := nGA
    have GB := nGB
    clear nHB nR0 nR1 nR2 nRA1 nRB1 nG3 nG9 nGA nGB
    have RC1 := Lib.hid kc
    clear kc
    have LB := Lib.hid HB.out.size
    have LTG3 := Lib.hid (show g3 < w7.heap.size from (Array.getElem?_eq_some_iff.1 G3.out).1)
    have LTG9 := Lib.hid (show g9 < w7.heap.size from (Array.getElem?_eq_some_iff.1 G9.out).1)
    have LTGA := Lib.hid (show ga < w7.heap.size from (Array.getElem?_eq_some_iff.1 GA.out).1)
    have LTGB := Lib.hid (show gb < w7.heap.size from (Array.getElem?_eq_some_iff.1 GB.out).1)
    obtain ⟨V7, hV7⟩ : ∃ V, V = w7.alloc (.cells (hubC xc Q1) 29) := ⟨_, rfl⟩
    have ha := (Below.refl w7.heap.size w7).alloc (Nat.le_refl _) (.cells (hubC xc Q1) 29)
    have hg := heap_alloc_new w7 (.cells (hubC xc Q1) 29)
    have nHB := Lib.hid (HB.out.alloc HB.out.size (.cells (hubC xc Q1) 29))
    rw [← hV7] at ha hg nHB
    have nR0 := Lib.hid ((R0.out.below ha (Nat.le_refl _)).more ha.size)
    have nR1 := Lib.hid ((R1.out.below ha (Nat.le_refl _)).more ha.size)
    have nR2 := Lib.hid ((R2.out.below ha (Nat.le_refl _)).more ha.size)
    have nRA1 := Lib.hid ((RA1.out.below ha (Nat.le_refl _)).more ha.size)
    have nRB1 := Lib.hid ((RB1.out.below ha (Nat.le_refl _)).more ha.size)
    have nRC1 := Lib.hid ((RC1.out.below ha (Nat.le_refl _)).more ha.size)
    have nG3 := Lib.hid (oldG G3.out ha (Nat.le_refl _))
    have nG9 := Lib.hid (oldG G9.out ha (Nat.le_refl _))
    have nGA := Lib.hid (oldG GA.out ha (Nat.le_refl _))
    have nGB := Lib.hid (oldG GB.out ha (Nat.le_refl _))
    obtain ⟨gc, hgc⟩ : ∃ g, g = w7.heap.size := ⟨_, rfl⟩
    rw [← hgc] at hg
    have HXGC := Lib.hid hgc
    have GC := Lib.hid hg
    have HV := Lib.hid hV7
    clear ha hg hV7 hgc
    clear HB R0 R1 R2 RA1 RB1 RC1 G3 G9 GA GB
    have HB := nHB
    have R0 := nR0
    have R1 := nR1
    have R2 := nR2
    have RA1 := nRA1
    have RB1 := nRB1
    have RC1 := nRC1
    have G3 := nG3
    have G9 := nG9
    have GA := nGA
    have GB := nGB
    clear nHB nR0 nR1 nR2 nRA1 nRB1 nRC1 nG3 nG9 nGA nGB
    have LEGC := Lib.hid (show W.heap.size ≤ gc from by rw [HXGC.out]; exact LB.out)
    have NEG3GC := Lib.hid (show g3 ≠ gc from by have h1 := LTG3.out; rw [HXGC.out]; omega)
    have NEGCG3 := Lib.hid (NEG3GC.out.symm)
    have NEG9GC := Lib.hid (show g9 ≠ gc from by have h1 := LTG9.out; rw [HXGC.out]; omega)
    have NEGCG9 := Lib.hid (NEG9GC.out.symm)
    have NEGAGC := Lib.hid (show ga ≠ gc from by have h1 := LTGA.out; rw [HXGC.out]; omega)
    have NEGCGA := Lib.hid (NEGAGC.out.symm)
    have NEGBGC := Lib.hid (show gb ≠ gc from by have h1 := LTGB.out; rw [HXGC.out]; omega)
    have NEGCGB := Lib.hid (NEGBGC.out.symm)
    clear LB LTG3 LTG9 LTGA LTGB
    go_upto_region 18 with (refine storeHb _ (.tmp 17) (.tmp 92) _ xc Q1 _ (heap_alloc_new _ _) rfl rfl rfl rfl rfl ?_; rw [setRowG_fold])
    rw [← HV.out]
    (try rw [← HXGC.out])
    clear HV HXGC
    go_wp2_with (first | (refine loadHb _ (.tmp 3) g3 x h G3.out rfl rfl rfl ?_) | (refine loadHb _ (.tmp 9) g9 x h G9.out rfl rfl rfl ?_) | (refine loadHb _ (.tmp 12) ga xa P1 GA.out rfl rfl rfl ?_) | (refine loadHb _ (.tmp 15) gb xb Q1 GB.out rfl rfl rfl ?_) | (refine loadHb _ (.tmp 17) gc xc Q1 GC.out rfl rfl rfl ?_))
    refine (C4.out xb _ RB1.out).mono ?_
    rintro e w8 ⟨⟨xd, rfl, kd⟩, hb⟩
    have nHB := Lib.hid (belG HB.out hb HB.out.size)
    have nR0 := Lib.hid ((R0.out.below hb (Nat.le_refl _)).more hb.size)
    have nR1 := Lib.hid ((R1.out.below hb (Nat.le_refl _)).more hb.size)
    have nR2 := Lib.hid ((R2.out.below hb (Nat.le_refl _)).more hb.size)
    have nRA1 := Lib.hid ((RA1.out.below hb (Nat.le_refl _)).more hb.size)
    have nRB1 := Lib.hid ((RB1.out.below hb (Nat.le_refl _)).more hb.size)
    have nRC1 := Lib.hid ((RC1.out.below hb (Nat.le_refl _)).more hb.size)
    have nG3 := Lib.hid (oldG G3.out hb (Nat.le_refl _))
    have nG9 := Lib.hid (oldG G9.out hb (Nat.le_refl _))
    have nGA := Lib.hid (oldG GA.out hb (Nat.le_refl _))
    have nGB := Lib.hid (oldG GB.out hb (Nat.le_refl _))
    have nGC := Lib.hid (oldG GC.out hb (Nat.le_refl _))
    clear hb
    clear HB R0 R1 R2 RA1 RB1 RC1 G3 G9 GA GB GC
    have HB := nHB
    have R0 := nR0
    have R1 := nR1
    have R2 := nR2
    have RA1 := nRA1
    have RB1 := nRB1
    have RC1 := nRC1
    have G3 := nG3
    have G9 := nG9
    have GA := nGA
    have GB := nGB
    have GC := nGC
    clear nHB nR0 nR1 nR2 nRA1 nRB1 nRC1 nG3 nG9 nGA nGB nGC
    have RD1 := Lib.hid kd
    clear kd
    have LB := Lib.hid HB.out.size
    have LTG3 := Lib.hid (show g3 < w8.heap.size from (Array.getElem?_eq_some_iff.1 G3.out).1)
    have LTG9 := Lib.hid (show g9 < w8.heap.size from (Array.getElem?_eq_some_iff.1 G9.out).1)
    have LTGA := Lib.hid (show ga < w8.heap.size from (Array.getElem?_eq_some_iff.1 GA.out).1)
    have LTGB := Lib.hid (show gb < w8.heap.size from (Array.getElem?_eq_some_iff.1 GB.out).1)
    have LTGC := Lib.hid (show gc < w8.heap.size from (Array.getElem?_eq_some_iff.1 GC.out).1)
    obtain ⟨V8, hV8⟩ : ∃ V, V = w8.alloc (.cells (hubC xd S1) 29) := ⟨_, rfl⟩
    have ha := (Below.refl w8.heap.size w8).alloc (Nat.le_refl _) (.cells (hubC xd S1) 29)
    have hg := heap_alloc_new w8 (.cells (hubC xd S1) 29)
    have nHB := Lib.hid (HB.out.alloc HB.out.size (.cells (hubC xd S1) 29))
    rw [← hV8] at ha hg nHB
    have nR0 := Lib.hid ((R0.out.below ha (Nat.le_refl _)).more ha.size)
    have nR1 := Lib.hid ((R1.out.below ha (Nat.le_refl _)).more ha.size)
    have nR2 := Lib.hid ((R2.out.below ha (Nat.le_refl _)).more ha.size)
    have nRA1 := Lib.hid ((RA1.out.below ha (Nat.le_refl _)).more ha.size)
    have nRB1 := Lib.hid ((RB1.out.below ha (Nat.le_refl _)).more ha.size)
    have nRC1 := Lib.hid ((RC1.out.below ha (Nat.le_refl _)).more ha.size)
    have nRD1 := Lib.hid ((RD1.out.below ha (Nat.le_refl _)).more ha.size)
    have nG3 := Lib.hid (oldG G3.out ha (Nat.le_refl _))
    have nG9 := Lib.hid (oldG G9.out ha (Nat.le_refl _))
    have nGA := Lib.hid (oldG GA.out ha (Nat.le_refl _))
    have nGB := Lib.hid (oldG GB.out ha (Nat.le_refl _))
    have nGC := Lib.hid (oldG GC.out ha (Nat.le_refl _))
    obtain ⟨gd, hgd⟩ : ∃ g, g = w8.heap.size := ⟨_, rfl⟩
    rw [← hgd] at hg
    have HXGD := Lib.hid hgd
    have GD := Lib.hid hg
    have HV := Lib.hid hV8
    clear ha hg hV8 hgd
    clear HB R0 R1 R2 RA1 RB1 RC1 RD1 G3 G9 GA GB GC
    have HB := nHB
    have R0 := nR0
    have R1 := nR1
    have R2 := nR2
    have RA1 := nRA1
    have RB1 := nRB1
    have RC1 := nRC1
    have RD1 := nRD1
    have G3 := nG3
    have G9 := nG9
    have GA := nGA
    have GB := nGB
    have GC := nGC
    clear nHB nR0 nR1 nR2 nRA1 nRB1 nRC1 nRD1 nG3 nG9 nGA nGB nGC
    have LEGD := Lib.hid (show W.heap.size ≤ gd from by rw [HXGD.out]; exact LB.out)
    have NEG3GD := Lib.hid (show g3 ≠ gd from by have h1 := LTG3.out; rw [HXGD.out]; omega)
    have NEGDG3 := Lib.hid (NEG3GD.out.symm)
    have NEG9GD := Lib.hid (show g9 ≠ gd from by have h1 := LTG9.out; rw [HXGD.out]; omega)
    have NEGDG9 := Lib.hid (NEG9GD.out.symm)
    have NEGAGD := Lib.hid (show ga ≠ gd from by have h1 := LTGA.out; rw [HXGD.out]; omega)
    have NEGDGA := Lib.hid (NEGAGD.out.symm)
    have NEGBGD := Lib.hid (show gb ≠ gd from by have h1 := LTGB.out; rw [HXGD.out]; omega)
    have NEGDGB := Lib.hid (NEGBGD.out.symm)
    have NEGCGD := Lib.hid (show gc ≠ gd from by have h1 := LTGC.out; rw [HXGD.out]; omega)
    have NEGDGC := Lib.hid (NEGCGD.out.symm)
    clear LB LTG3 LTG9 LTGA LTGB LTGC
    go_upto_region 19 with (refine storeHb _ (.tmp 20) (.tmp 99) _ xd S1 _ (heap_alloc_new _ _) rfl rfl rfl rfl rfl ?_; rw [setRowG_fold])
    rw [← HV.out]
    (try rw [← HXGD.out])
    clear HV HXGD
    go_wp2_with (first | (refine loadHb _ (.tmp 3) g3 x h G3.out rfl rfl rfl ?_) | (refine loadHb _ (.tmp 9) g9 x h G9.out rfl rfl rfl ?_) | (refine loadHb _ (.tmp 12) ga xa P1 GA.out rfl rfl rfl ?_) | (refine loadHb _ (.tmp 15) gb xb Q1 GB.out rfl rfl rfl ?_) | (refine loadHb _ (.tmp 17) gc xc Q1 GC.out rfl rfl rfl ?_) | (refine loadHb _ (.tmp 20) gd xd S1 GD.out rfl rfl rfl ?_))
    refine (C5.out xd _ RD1.out R2.out).mono ?_
    rintro e w9 ⟨⟨xe, Ae, ce, rfl, ke, -, -, me⟩, hb⟩
    have nHB := Lib.hid (belG HB.out hb HB.out.size)
    have nR0 := Lib.hid ((R0.out.below hb (Nat.le_refl _)).more hb.size)
    have nR1 := Lib.hid ((R1.out.below hb (Nat.le_refl _)).more hb.size)
    have nR2 := Lib.hid ((R2.out.below hb (Nat.le_refl _)).more hb.size)
    have nRA1 := Lib.hid ((RA1.out.below hb (Nat.le_refl _)).more hb.size)
    have nRB1 := Lib.hid ((RB1.out.below hb (Nat.le_refl _)).more hb.size)
    have nRC1 := Lib.hid ((RC1.out.below hb (Nat.le_refl _)).more hb.size)
    have nRD1 := Lib.hid ((RD1.out.below hb (Nat.le_refl _)).more hb.size)
    have nG3 := Lib.hid (oldG G3.out hb (Nat.le_refl _))
    have nG9 := Lib.hid (oldG G9.out hb (Nat.le_refl _))
    have nGA := Lib.hid (oldG GA.out hb (Nat.le_refl _))
    have nGB := Lib.hid (oldG GB.out hb (Nat.le_refl _))
    have nGC := Lib.hid (oldG GC.out hb (Nat.le_refl _))
    have nGD := Lib.hid (oldG GD.out hb (Nat.le_refl _))
    clear hb
    clear HB R0 R1 R2 RA1 RB1 RC1 RD1 G3 G9 GA GB GC GD
    have HB := nHB
    have R0 := nR0
    have R1 := nR1
    have R2 := nR2
    have RA1 := nRA1
    have RB1 := nRB1
    have RC1 := nRC1
    have RD1 := nRD1
    have G3 := nG3
    have G9 := nG9
    have GA := nGA
    have GB := nGB
    have GC := nGC
    have GD := nGD
    clear nHB nR0 nR1 nR2 nRA1 nRB1 nRC1 nRD1 nG3 nG9 nGA nGB nGC nGD
    have RE1 := Lib.hid ke
    have ME1 := Lib.hid me
    clear ke me
    have LB := Lib.hid HB.out.size
    have LTG3 := Lib.hid (show g3 < w9.heap.size from (Array.getElem?_eq_some_iff.1 G3.out).1)
    have LTG9 := Lib.hid (show g9 < w9.heap.size from (Array.getElem?_eq_some_iff.1 G9.out).1)
    have LTGA := Lib.hid (show ga < w9.heap.size from (Array.getElem?_eq_some_iff.1 GA.out).1)
    have LTGB := Lib.hid (show gb < w9.heap.size from (Array.getElem?_eq_some_iff.1 GB.out).1)
    have LTGC := Lib.hid (show gc < w9.heap.size from (Array.getElem?_eq_some_iff.1 GC.out).1)
    have LTGD := Lib.hid (show gd < w9.heap.size from (Array.getElem?_eq_some_iff.1 GD.out).1)
    obtain ⟨V9, hV9⟩ : ∃ V, V = w9.alloc (.cells (hubC xe H9) 29) := ⟨_, rfl⟩
    have ha := (Below.refl w9.heap.size w9).alloc (Nat.le_refl _) (.cells (hubC xe H9) 29)
    have hg := heap_alloc_new w9 (.cells (hubC xe H9) 29)
    have nHB := Lib.hid (HB.out.alloc HB.out.size (.cells (hubC xe H9) 29))
    rw [← hV9] at ha hg nHB
    have nR0 := Lib.hid ((R0.out.below ha (Nat.le_refl _)).more ha.size)
    have nR1 := Lib.hid ((R1.out.below ha (Nat.le_refl _)).more ha.size)
    have nR2 := Lib.hid ((R2.out.below ha (Nat.le_refl _)).more ha.size)
    have nRA1 := Lib.hid ((RA1.out.below ha (Nat.le_refl _)).more ha.size)
    have nRB1 := Lib.hid ((RB1.out.below ha (Nat.le_refl _)).more ha.size)
    have nRC1 := Lib.hid ((RC1.out.below ha (Nat.le_refl _)).more ha.size)
    have nRD1 := Lib.hid ((RD1.out.below ha (Nat.le_refl _)).more ha.size)
    have nRE1 := Lib.hid ((RE1.out.below ha (Nat.le_refl _)).more ha.size)
    have nME1 := Lib.hid ((ME1.out.below ha (Nat.le_refl _)).more ha.size)
    have nG3 := Lib.hid (oldG G3.out ha (Nat.le_refl _))
    have nG9 := Lib.hid (oldG G9.out ha (Nat.le_refl _))
    have nGA := Lib.hid (oldG GA.out ha (Nat.le_refl _))
    have nGB := Lib.hid (oldG GB.out ha (Nat.le_refl _))
    have nGC := Lib.hid (oldG GC.out ha (Nat.le_refl _))
    have nGD := Lib.hid (oldG GD.out ha (Nat.le_refl _))
    obtain ⟨ge, hge⟩ : ∃ g, g = w9.heap.size := ⟨_, rfl⟩
    rw [← hge] at hg
    have HXGE := Lib.hid hge
    have GE := Lib.hid hg
    have HV := Lib.hid hV9
    clear ha hg hV9 hge
    clear HB R0 R1 R2 RA1 RB1 RC1 RD1 RE1 ME1 G3 G9 GA GB GC GD
    have HB := nHB
    have R0 := nR0
    have R1 := nR1
    have R2 := nR2
    have RA1 := nRA1
    have RB1 := nRB1
    have RC1 := nRC1
    have RD1 := nRD1
    have RE1 := nRE1
    have ME1 := nME1
    have G3 := nG3
    have G9 := nG9
    have GA := nGA
    have GB := nGB
    have GC := nGC
    have GD := nGD
    clear nHB nR0 nR1 nR2 nRA1 nRB1 nRC1 nRD1 nRE1 nME1 nG3 nG9 nGA nGB nGC nGD
    have LEGE := Lib.hid (show W.heap.size ≤ ge from by rw [HXGE.out]; exact LB.out)
    have NEG3GE := Lib.hid (show g3 ≠ ge from by have h1 := LTG3.out; rw [HXGE.out]; omega)
    have NEGEG3 := Lib.hid (NEG3GE.out.symm)
    have NEG9GE := Lib.hid (show g9 ≠ ge from by have h1 := LTG9.out; rw [HXGE.out]; omega)
    have NEGEG9 := Lib.hid (NEG9GE.out.symm)
    have NEGAGE := Lib.hid (show ga ≠ ge from by have h1 := LTGA.out; rw [HXGE.out]; omega)
    have NEGEGA := Lib.hid (NEGAGE.out.symm)
    have NEGBGE := Lib.hid (show gb ≠ ge from by have h1 := LTGB.out; rw [HXGE.out]; omega)
    have NEGEGB := Lib.hid (NEGBGE.out.symm)
    have NEGCGE := Lib.hid (show gc ≠ ge from by have h1 := LTGC.out; rw [HXGE.out]; omega)
    have NEGEGC := Lib.hid (NEGCGE.out.symm)
    have NEGDGE := Lib.hid (show gd ≠ ge from by have h1 := LTGD.out; rw [HXGE.out]; omega)
    have NEGEGD := Lib.hid (NEGDGE.out.symm)
    clear LB LTG3 LTG9 LTGA LTGB LTGC LTGD
    go_upto_region 20 with (refine storeHb _ (.tmp 22) (.tmp 106) _ xe H9 _ (heap_alloc_new _ _) rfl rfl rfl rfl rfl ?_; rw [setRowG_fold])
    rw [← HV.out]
    (try rw [← HXGE.out])
    clear HV HXGE
    go_wp2_with (first | (refine loadHb _ (.tmp 3) g3 x h G3.out rfl rfl rfl ?_) | (refine loadHb _ (.tmp 9) g9 x h G9.out rfl rfl rfl ?_) | (refine loadHb _ (.tmp 12) ga xa P1 GA.out rfl rfl rfl ?_) | (refine loadHb _ (.tmp 15) gb xb Q1 GB.out rfl rfl rfl ?_) | (refine loadHb _ (.tmp 17) gc xc Q1 GC.out rfl rfl rfl ?_) | (refine loadHb _ (.tmp 20) gd xd S1 GD.out rfl rfl rfl ?_) | (refine loadHb _ (.tmp 22) ge xe H9 GE.out rfl rfl rfl ?_))
    refine (C6.out _ R2.out).mono ?_
    rintro e w10 ⟨⟨Af, cf, Ag, cg, rfl, -, -, -, -, -, mg⟩, hb⟩
    have nHB := Lib.hid (belG HB.out hb HB.out.size)
    have nR0 := Lib.hid ((R0.out.below hb (Nat.le_refl _)).more hb.size)
    have nR1 := Lib.hid ((R1.out.below hb (Nat.le_refl _)).more hb.size)
    have nR2 := Lib.hid ((R2.out.below hb (Nat.le_refl _)).more hb.size)
    have nRA1 := Lib.hid ((RA1.out.below hb (Nat.le_refl _)).more hb.size)
    have nRB1 := Lib.hid ((RB1.out.below hb (Nat.le_refl _)).more hb.size)
    have nRC1 := Lib.hid ((RC1.out.below hb (Nat.le_refl _)).more hb.size)
    have nRD1 := Lib.hid ((RD1.out.below hb (Nat.le_refl _)).more hb.size)
    have nRE1 := Lib.hid ((RE1.out.below hb (Nat.le_refl _)).more hb.size)
    have nME1 := Lib.hid ((ME1.out.below hb (Nat.le_refl _)).more hb.size)
    have nG3 := Lib.hid (oldG G3.out hb (Nat.le_refl _))
    have nG9 := Lib.hid (oldG G9.out hb (Nat.le_refl _))
    have nGA := Lib.hid (oldG GA.out hb (Nat.le_refl _))
    have nGB := Lib.hid (oldG GB.out hb (Nat.le_refl _))
    have nGC := Lib.hid (oldG GC.out hb (Nat.le_refl _))
    have nGD := Lib.hid (oldG GD.out hb (Nat.le_refl _))
    have nGE := Lib.hid (oldG GE.out hb (Nat.le_refl _))
    clear hb
    clear HB R0 R1 R2 RA1 RB1 RC1 RD1 RE1 ME1 G3 G9 GA GB GC GD GE
    have HB := nHB
    have R0 := nR0
    have R1 := nR1
    have R2 := nR2
    have RA1 := nRA1
    have RB1 := nRB1
    have RC1 := nRC1
    have RD1 := nRD1
    have RE1 := nRE1
    have ME1 := nME1
    have G3 := nG3
    have G9 := nG9
    have GA := nGA
    have GB := nGB
    have GC := nGC
    have GD := nGD
    have GE := nGE
    clear nHB nR0 nR1 nR2 nRA1 nRB1 nRC1 nRD1 nRE1 nME1 nG3 nG9 nGA nGB nGC nGD nGE
    have MG1 := Lib.hid mg
    clear mg
    obtain ⟨V10, hV10⟩ : ∃ V, V = w10.alloc (.cells #[.slice Af fd9.buf.length cf, .int .i64 fd9.skip, .int .i64 fd9.bad] 25) := ⟨_, rfl⟩
    have ha := (Below.refl w10.heap.size w10).alloc (Nat.le_refl _) (.cells #[.slice Af fd9.buf.length cf, .int .i64 fd9.skip, .int .i64 fd9.bad] 25)
    have hg := heap_alloc_new w10 (.cells #[.slice Af fd9.buf.length cf, .int .i64 fd9.skip, .int .i64 fd9.bad] 25)
    have nHB := Lib.hid (HB.out.alloc HB.out.size (.cells #[.slice Af fd9.buf.length cf, .int .i64 fd9.skip, .int .i64 fd9.bad] 25))
    rw [← hV10] at ha hg nHB
    have nR0 := Lib.hid ((R0.out.below ha (Nat.le_refl _)).more ha.size)
    have nR1 := Lib.hid ((R1.out.below ha (Nat.le_refl _)).more ha.size)
    have nR2 := Lib.hid ((R2.out.below ha (Nat.le_refl _)).more ha.size)
    have nRA1 := Lib.hid ((RA1.out.below ha (Nat.le_refl _)).more ha.size)
    have nRB1 := Lib.hid ((RB1.out.below ha (Nat.le_refl _)).more ha.size)
    have nRC1 := Lib.hid ((RC1.out.below ha (Nat.le_refl _)).more ha.size)
    have nRD1 := Lib.hid ((RD1.out.below ha (Nat.le_refl _)).more ha.size)
    have nRE1 := Lib.hid ((RE1.out.below ha (Nat.le_refl _)).more ha.size)
    have nME1 := Lib.hid ((ME1.out.below ha (Nat.le_refl _)).more ha.size)
    have nMG1 := Lib.hid ((MG1.out.below ha (Nat.le_refl _)).more ha.size)
    have nG3 := Lib.hid (oldG G3.out ha (Nat.le_refl _))
    have nG9 := Lib.hid (oldG G9.out ha (Nat.le_refl _))
    have nGA := Lib.hid (oldG GA.out ha (Nat.le_refl _))
    have nGB := Lib.hid (oldG GB.out ha (Nat.le_refl _))
    have nGC := Lib.hid (oldG GC.out ha (Nat.le_refl _))
    have nGD := Lib.hid (oldG GD.out ha (Nat.le_refl _))
    have nGE := Lib.hid (oldG GE.out ha (Nat.le_refl _))
    obtain ⟨g25, hg25⟩ : ∃ g, g = w10.heap.size := ⟨_, rfl⟩
    rw [← hg25] at hg
    have HXG25 := Lib.hid hg25
    have G25 := Lib.hid hg
    have HV := Lib.hid hV10
    clear ha hg hV10 hg25
    clear HB R0 R1 R2 RA1 RB1 RC1 RD1 RE1 ME1 MG1 G3 G9 GA GB GC GD GE
    have HB := nHB
    have R0 := nR0
    have R1 := nR1
    have R2 := nR2
    have RA1 := nRA1
    have RB1 := nRB1
    have RC1 := nRC1
    have RD1 := nRD1
    have RE1 := nRE1
    have ME1 := nME1
    have MG1 := nMG1
    have G3 := nG3
    have G9 := nG9
    have GA := nGA
    have GB := nGB
    have GC := nGC
    have GD := nGD
    have GE := nGE
    clear nHB nR0 nR1 nR2 nRA1 nRB1 nRC1 nRD1 nRE1 nME1 nMG1 nG3 nG9 nGA nGB nGC nGD nGE
    go_upto_region 21 with (fail)
    rw [← HV.out]
    (try rw [← HXG25.out])
    clear HV HXG25
    clear C1 C2 C3 C4 C5 C6 HA HK HLA HLB HRT HUQ HN HM HL CF CR R0 R1 R2 RA1 RB1 RC1 RE1 G3 GA GC GE G25 LEG3 LEG9 LEGA LEGB LEGC LEGD LEGE NEG3G9 NEG3GA NEG3GB NEG3GC NEG3GD NEG3GE NEG9G3 NEG9GA NEG9GB NEG9GC NEG9GD NEG9GE NEGAG3 NEGAG9 NEGAGB NEGAGC NEGAGD NEGAGE NEGBG3 NEGBG9 NEGBGA NEGBGC NEGBGD NEGBGE NEGCG3 NEGCG9 NEGCGA NEGCGB NEGCGD NEGCGE NEGDG3 NEGDG9 NEGDGA NEGDGB NEGDGC NEGDGE NEGEG3 NEGEG9 NEGEGA NEGEGB NEGEGC NEGEGD
    have hls : IntKind.i64.wrap (Hb.life h q + 1) = S1.life q := (IntWalk.i64_left _).trans HLS.out
    have BB0 := Lib.hid ((Below.refl V10.heap.size V10).drew)
    have F0 := Lib.hid (fun w (h : Below V10.heap.size V10 w) => belG HB.out h HB.out.size)
    have FME1 := Lib.hid (fun w (h : Below V10.heap.size V10 w) => (ME1.out.below h (Nat.le_refl _)).more h.size)
    have FMG1 := Lib.hid (fun w (h : Below V10.heap.size V10 w) => (MG1.out.below h (Nat.le_refl _)).more h.size)
    have FRD1 := Lib.hid (fun w (h : Below V10.heap.size V10 w) => (RD1.out.below h (Nat.le_refl _)).more h.size)
    go_wp2_with (first | (refine loadHb _ (.tmp 9) g9 x h G9.out rfl rfl rfl ?_) | (refine loadHb _ (.tmp 15) gb xb Q1 GB.out rfl rfl rfl ?_) | (refine loadHb _ (.tmp 20) gd xd S1 GD.out rfl rfl rfl ?_))
    have KEEP := Lib.hid (fun w' (hW : Below V10.heap.size V10 w') => (show Below V10.heap.size V10 w' ∧ w'.cell? ⟨gd, 16 + q, none⟩ = some (.int .i64 (S1.life q)) ∧ w'.cell? ⟨g9, 16 + q, none⟩ = some (.int .i64 (Hb.life h q)) ∧ w'.cell? ⟨gd, q, none⟩ = some (.bool true) ∧ w'.cell? ⟨gb, q, none⟩ = some (.bool false) ∧ w'.cell? ⟨gd, 4 + q * 3, none⟩ = some (slH xd S1 q) ∧ w'.cell? ⟨gd, 4 + q * 3 + 1, none⟩ = some (.int .i64 (S1.fd q).skip) ∧ w'.cell? ⟨gd, 4 + q * 3 + 2, none⟩ = some (.int .i64 (S1.fd q).bad) from ⟨hW, BoxH.cell (BoxH.old GD.out hW (Nat.le_refl _)) (hubC_life xd S1 hq4), BoxH.cell (BoxH.old G9.out hW (Nat.le_refl _)) (hubC_life x h hq4), (BoxH.cell (BoxH.old GD.out hW (Nat.le_refl _)) (hubC_up xd S1 hq4)).trans (by rw [HSU.out]), (BoxH.cell (BoxH.old GB.out hW (Nat.le_refl _)) (hubC_up xb Q1 hq4)).trans (by rw [HQU.out]), BoxH.cell (BoxH.old GD.out hW (Nat.le_refl _)) (hubC_buf xd S1 hq4), BoxH.cell (BoxH.old GD.out hW (Nat.le_refl _)) (hubC_skip xd S1 hq4), BoxH.cell (BoxH.old GD.out hW (Nat.le_refl _)) (hubC_bad xd S1 hq4)⟩))
    refine wp_region_noPanic ?_
    refine wp_region_held_drew (S := fun w' => Below V10.heap.size V10 w' ∧ w'.cell? ⟨gd, 16 + q, none⟩ = some (.int .i64 (S1.life q)) ∧ w'.cell? ⟨g9, 16 + q, none⟩ = some (.int .i64 (Hb.life h q)) ∧ w'.cell? ⟨gd, q, none⟩ = some (.bool true) ∧ w'.cell? ⟨gb, q, none⟩ = some (.bool false) ∧ w'.cell? ⟨gd, 4 + q * 3, none⟩ = some (slH xd S1 q) ∧ w'.cell? ⟨gd, 4 + q * 3 + 1, none⟩ = some (.int .i64 (S1.fd q).skip) ∧ w'.cell? ⟨gd, 4 + q * 3 + 2, none⟩ = some (.int .i64 (S1.fd q).bad)) (by kernel_rfl) (KEEP.out _ BB0.out) (fun hHeld => ?_)
    (refine wpAnyH_take (i := 0) (oi := ?_) (v := ?_) ?_ (by kernel_rfl) (by decide +kernel) (by decide +kernel) (fun _ _ _ h => h) ?_ (by assumption) ?_; rotate_left 2; (focus (simp only [List.getElem?_toArray] <;> rfl)); (focus (refine Or.inl ⟨by rfl, ?_⟩; intro w hSw; (try dsimp only at hSw); go_simp <;> with_reducible rfl)); (try simp only [Act.put, List.setIfInBounds_toArray, List.set_cons_zero, List.set_cons_succ]))
    (refine wpAnyH_take (i := 1) (oi := ?_) (v := ?_) ?_ (by kernel_rfl) (by decide +kernel) (by decide +kernel) (fun _ _ _ h => h) ?_ (by assumption) ?_; rotate_left 2; (focus (simp only [List.getElem?_toArray] <;> rfl)); (focus (refine Or.inl ⟨by rfl, ?_⟩; intro w hSw; (try dsimp only at hSw); go_simp <;> with_reducible rfl)); (try simp only [Act.put, List.setIfInBounds_toArray, List.set_cons_zero, List.set_cons_succ]))
    (refine wpAnyH_take (i := 2) (oi := ?_) (v := ?_) ?_ (by kernel_rfl) (by decide +kernel) (by decide +kernel) (fun _ _ _ h => h) ?_ (by assumption) ?_; rotate_left 2; (focus (simp only [List.getElem?_toArray] <;> rfl)); (focus (refine Or.inl ⟨by rfl, ?_⟩; intro w hSw; (try dsimp only at hSw); go_simp <;> with_reducible rfl)); (try simp only [Act.put, List.setIfInBounds_toArray, List.set_cons_zero, List.set_cons_succ]))
    (refine wpAnyH_take (i := 3) (oi := ?_) (v := ?_) ?_ (by kernel_rfl) (by decide +kernel) (by decide +kernel) (fun _ _ _ h => h) ?_ (by assumption) ?_; rotate_left 2; (focus (simp only [List.getElem?_toArray] <;> rfl)); (focus (refine Or.inl ⟨by rfl, ?_⟩; intro w hSw; (try dsimp only at hSw); go_simp <;> with_reducible rfl)); (try simp only [Act.put, List.setIfInBounds_toArray, List.set_cons_zero, List.set_cons_succ]))
    (refine wpAnyH_take (i := 4) (oi := ?_) (v := ?_) ?_ (by kernel_rfl) (by decide +kernel) (by decide +kernel) (fun _ _ _ h => h) ?_ (by assumption) ?_; rotate_left 2; (focus (simp only [List.getElem?_toArray] <;> rfl)); (focus (refine Or.inl ⟨by rfl, ?_⟩; intro w hSw; (try dsimp only at hSw); go_simp <;> with_reducible rfl)); (try simp only [Act.put, List.setIfInBounds_toArray, List.set_cons_zero, List.set_cons_succ]))
    (refine wpAnyH_take (i := 5) (oi := ?_) (v := ?_) ?_ (by kernel_rfl) (by decide +kernel) (by decide +kernel) (fun _ _ _ h => h) ?_ (by assumption) ?_; rotate_left 2; (focus (simp only [List.getElem?_toArray] <;> rfl)); (focus (refine Or.inl ⟨by rfl, ?_⟩; intro w hSw; (try dsimp only at hSw); go_simp <;> with_reducible rfl)); (try simp only [Act.put, List.setIfInBounds_toArray, List.set_cons_zero, List.set_cons_succ]))
    (refine wpAnyH_take (i := 6) (oi := ?_) (v := ?_) ?_ (by kernel_rfl) (by decide +kernel) (by decide +kernel) (fun _ _ _ h => h) ?_ (by assumption) ?_; rotate_left 2; (focus (simp only [List.getElem?_toArray] <;> rfl)); (focus (refine Or.inl ⟨by rfl, ?_⟩; intro w hSw; (try dsimp only at hSw); go_simp <;> with_reducible rfl)); (try simp only [Act.put, List.setIfInBounds_toArray, List.set_cons_zero, List.set_cons_succ]))
    (refine wpAnyH_take (i := 7) (oi := ?_) (v := ?_) ?_ (by kernel_rfl) (by decide +kernel) (by decide +kernel) (fun _ _ _ h => h) ?_ (by assumption) ?_; rotate_left 2; (focus (simp only [List.getElem?_toArray] <;> rfl)); (focus (refine Or.inl ⟨by rfl, ?_⟩; intro w hSw; (try dsimp only at hSw); go_simp <;> with_reducible rfl)); (try simp only [Act.put, List.setIfInBounds_toArray, List.set_cons_zero, List.set_cons_succ]))
    (refine wpAnyH_take (i := 8) (oi := ?_) (v := ?_) ?_ (by kernel_rfl) (by decide +kernel) (by decide +kernel) (fun _ _ _ h => h) ?_ (by assumption) ?_; rotate_left 2; (focus (simp only [List.getElem?_toArray] <;> rfl)); (focus (refine Or.inl ⟨by rfl, ?_⟩; intro w hSw; (try dsimp only at hSw); go_simp <;> with_reducible rfl)); (try simp only [Act.put, List.setIfInBounds_toArray, List.set_cons_zero, List.set_cons_succ]))
    (refine wpAnyH_take (i := 9) (oi := ?_) (v := ?_) ?_ (by kernel_rfl) (by decide +kernel) (by decide +kernel) (fun _ _ _ h => h) ?_ (by assumption) ?_; rotate_left 2; (focus (simp only [List.getElem?_toArray] <;> rfl)); (focus (refine Or.inl ⟨by rfl, ?_⟩; intro w hSw; (try dsimp only at hSw); go_simp <;> with_reducible rfl)); (try simp only [Act.put, List.setIfInBounds_toArray, List.set_cons_zero, List.set_cons_succ]))
    (refine wpAnyH_take (i := 10) (oi := ?_) (v := ?_) ?_ (by kernel_rfl) (by decide +kernel) (by decide +kernel) (fun _ _ _ h => h) ?_ (by assumption) ?_; rotate_left 2; (focus (simp only [List.getElem?_toArray] <;> rfl)); (focus (refine Or.inl ⟨by rfl, ?_⟩; intro w hSw; (try dsimp only at hSw); go_simp <;> with_reducible rfl)); (try simp only [Act.put, List.setIfInBounds_toArray, List.set_cons_zero, List.set_cons_succ]))
    (refine wpAnyH_take (i := 11) (oi := ?_) (v := ?_) ?_ (by kernel_rfl) (by decide +kernel) (by decide +kernel) (fun _ _ _ h => h) ?_ (by assumption) ?_; rotate_left 2; (focus (simp only [List.getElem?_toArray] <;> rfl)); (focus (refine Or.inl ⟨by rfl, ?_⟩; intro w hSw; (try dsimp only at hSw); go_simp <;> with_reducible rfl)); (try simp only [Act.put, List.setIfInBounds_toArray, List.set_cons_zero, List.set_cons_succ]))
    (refine wpAnyH_take (i := 12) (oi := ?_) (v := ?_) ?_ (by kernel_rfl) (by decide +kernel) (by decide +kernel) (fun _ _ _ h => h) ?_ (by assumption) ?_; rotate_left 2; (focus (simp only [List.getElem?_toArray] <;> rfl)); (focus (refine Or.inl ⟨by rfl, ?_⟩; intro w hSw; (try dsimp only at hSw); go_simp <;> with_reducible rfl)); (try simp only [Act.put, List.setIfInBounds_toArray, List.set_cons_zero, List.set_cons_succ]))
    (refine wpAnyH_take (i := 13) (oi := ?_) (v := ?_) ?_ (by kernel_rfl) (by decide +kernel) (by decide +kernel) (fun _ _ _ h => h) ?_ (by assumption) ?_; rotate_left 2; (focus (simp only [List.getElem?_toArray] <;> rfl)); (focus (refine Or.inl ⟨by rfl, ?_⟩; intro w hSw; (try dsimp only at hSw); go_simp <;> with_reducible rfl)); (try simp only [Act.put, List.setIfInBounds_toArray, List.set_cons_zero, List.set_cons_succ]))
    (refine wpAnyH_take (i := 14) (oi := ?_) (v := ?_) ?_ (by kernel_rfl) (by decide +kernel) (by decide +kernel) (fun _ _ _ h => h) ?_ (by assumption) ?_; rotate_left 2; (focus (simp only [List.getElem?_toArray] <;> rfl)); (focus (refine Or.inl ⟨by rfl, ?_⟩; intro w hSw; (try dsimp only at hSw); go_simp <;> with_reducible rfl)); (try simp only [Act.put, List.setIfInBounds_toArray, List.set_cons_zero, List.set_cons_succ]))
    (refine wpAnyH_take (i := 15) (oi := ?_) (v := ?_) ?_ (by kernel_rfl) (by decide +kernel) (by decide +kernel) (fun _ _ _ h => h) ?_ (by assumption) ?_; rotate_left 2; (focus (simp only [List.getElem?_toArray] <;> rfl)); (focus (refine Or.inl ⟨by rfl, ?_⟩; intro w hSw; (try dsimp only at hSw); go_simp <;> with_reducible rfl)); (try simp only [Act.put, List.setIfInBounds_toArray, List.set_cons_zero, List.set_cons_succ]))
    (refine wpAnyH_take (i := 16) (oi := ?_) (v := ?_) ?_ (by kernel_rfl) (by decide +kernel) (by decide +kernel) (fun _ _ _ h => h) ?_ (by assumption) ?_; rotate_left 2; (focus (simp only [List.getElem?_toArray] <;> rfl)); (focus (refine Or.inl ⟨by rfl, ?_⟩; intro w hSw; (try dsimp only at hSw); go_simp <;> with_reducible rfl)); (try simp only [Act.put, List.setIfInBounds_toArray, List.set_cons_zero, List.set_cons_succ]))
    (refine wpAnyH_take (i := 17) (oi := ?_) (v := ?_) ?_ (by kernel_rfl) (by decide +kernel) (by decide +kernel) (fun _ _ _ h => h) ?_ (by assumption) ?_; rotate_left 2; (focus (simp only [List.getElem?_toArray] <;> rfl)); (focus (refine Or.inl ⟨by rfl, ?_⟩; intro w hSw; (try dsimp only at hSw); go_simp <;> with_reducible rfl)); (try simp only [Act.put, List.setIfInBounds_toArray, List.set_cons_zero, List.set_cons_succ]))
    (refine wpAnyH_take (i := 18) (oi := ?_) (v := ?_) ?_ (by kernel_rfl) (by decide +kernel) (by decide +kernel) (fun _ _ _ h => h) ?_ (by assumption) ?_; rotate_left 2; (focus (simp only [List.getElem?_toArray] <;> rfl)); (focus (refine Or.inl ⟨by rfl, ?_⟩; intro w hSw; (try dsimp only at hSw); go_simp <;> with_reducible rfl)); (try simp only [Act.put, List.setIfInBounds_toArray, List.set_cons_zero, List.set_cons_succ]))
    (refine wpAnyH_take (i := 19) (oi := ?_) (v := ?_) ?_ (by kernel_rfl) (by decide +kernel) (by decide +kernel) (fun _ _ _ h => h) ?_ (by assumption) ?_; rotate_left 2; (focus (simp only [List.getElem?_toArray] <;> rfl)); (focus (refine Or.inl ⟨by rfl, ?_⟩; intro w hSw; (try dsimp only at hSw); go_simp <;> with_reducible rfl)); (try simp only [Act.put, List.setIfInBounds_toArray, List.set_cons_zero, List.set_cons_succ]))
    (refine wpAnyH_take (i := 20) (oi := ?_) (v := ?_) ?_ (by kernel_rfl) (by decide +kernel) (by decide +kernel) (fun _ _ _ h => h) ?_ (by assumption) ?_; rotate_left 2; (focus (simp only [List.getElem?_toArray] <;> rfl)); (focus (refine Or.inl ⟨by rfl, ?_⟩; intro w hSw; (try dsimp only at hSw); go_simp <;> with_reducible rfl)); (try simp only [Act.put, List.setIfInBounds_toArray, List.set_cons_zero, List.set_cons_succ]))
    (refine wpAnyH_take (i := 21) (oi := ?_) (v := ?_) ?_ (by kernel_rfl) (by decide +kernel) (by decide +kernel) (fun _ _ _ h => h) ?_ (by assumption) ?_; rotate_left 2; (focus (simp only [List.getElem?_toArray] <;> rfl)); (focus (refine Or.inl ⟨by rfl, ?_⟩; intro w hSw; (try dsimp only at hSw); go_simp <;> with_reducible rfl)); (try simp only [Act.put, List.setIfInBounds_toArray, List.set_cons_zero, List.set_cons_succ]))
    (refine wpAnyH_take (i := 22) (oi := ?_) (v := ?_) ?_ (by kernel_rfl) (by decide +kernel) (by decide +kernel) (fun _ _ _ h => h) ?_ (by assumption) ?_; rotate_left 2; (focus (simp only [List.getElem?_toArray] <;> rfl)); (focus (refine Or.inl ⟨by rfl, ?_⟩; intro w hSw; (try dsimp only at hSw); go_simp <;> with_reducible rfl)); (try simp only [Act.put, List.setIfInBounds_toArray, List.set_cons_zero, List.set_cons_succ]))
    (refine wpAnyH_take (i := 23) (oi := ?_) (v := ?_) ?_ (by kernel_rfl) (by decide +kernel) (by decide +kernel) (fun _ _ _ h => h) ?_ (by assumption) ?_; rotate_left 2; (focus (simp only [List.getElem?_toArray] <;> rfl)); (focus (refine Or.inl ⟨by rfl, ?_⟩; intro w hSw; (try dsimp only at hSw); go_simp <;> with_reducible rfl)); (try simp only [Act.put, List.setIfInBounds_toArray, List.set_cons_zero, List.set_cons_succ]))
    (refine wpAnyH_take (i := 24) (oi := ?_) (v := ?_) ?_ (by kernel_rfl) (by decide +kernel) (by decide +kernel) (fun _ _ _ h => h) ?_ (by assumption) ?_; rotate_left 2; (focus (simp only [List.getElem?_toArray] <;> rfl)); (focus (refine Or.inl ⟨by rfl, ?_⟩; intro w hSw; (try dsimp only at hSw); go_simp <;> with_reducible rfl)); (try simp only [Act.put, List.setIfInBounds_toArray, List.set_cons_zero, List.set_cons_succ]))
    (refine wpAnyH_take (i := 25) (oi := ?_) (v := ?_) ?_ (by kernel_rfl) (by decide +kernel) (by decide +kernel) (fun _ _ _ h => h) ?_ (by assumption) ?_; rotate_left 2; (focus (simp only [List.getElem?_toArray] <;> rfl)); (focus (refine Or.inl ⟨by rfl, ?_⟩; intro w hSw; (try dsimp only at hSw); go_simp <;> with_reducible rfl)); (try simp only [Act.put, List.setIfInBounds_toArray, List.set_cons_zero, List.set_cons_succ]))
    (refine wpAnyH_take (i := 26) (oi := ?_) (v := ?_) ?_ (by kernel_rfl) (by decide +kernel) (by decide +kernel) (fun _ _ _ h => h) ?_ (by assumption) ?_; rotate_left 2; (focus (simp only [List.getElem?_toArray] <;> rfl)); (focus (refine Or.inl ⟨by rfl, ?_⟩; intro w hSw; (try dsimp only at hSw); go_simp <;> with_reducible rfl)); (try simp only [Act.put, List.setIfInBounds_toArray, List.set_cons_zero, List.set_cons_succ]))
    (refine wpAnyH_take (i := 27) (oi := ?_) (v := ?_) ?_ (by kernel_rfl) (by decide +kernel) (by decide +kernel) (fun _ _ _ h => h) ?_ (by assumption) ?_; rotate_left 2; (focus (simp only [List.getElem?_toArray] <;> rfl)); (focus (refine Or.inl ⟨by rfl, ?_⟩; intro w hSw; (try dsimp only at hSw); go_simp <;> with_reducible rfl)); (try simp only [Act.put, List.setIfInBounds_toArray, List.set_cons_zero, List.set_cons_succ]))
    (refine wpAnyH_take (i := 28) (oi := ?_) (v := ?_) ?_ (by kernel_rfl) (by decide +kernel) (by decide +kernel) (fun _ _ _ h => h) ?_ (by assumption) ?_; rotate_left 2; (focus (simp only [List.getElem?_toArray] <;> rfl)); (focus (refine Or.inl ⟨by rfl, ?_⟩; intro w hSw; (try dsimp only at hSw); go_simp <;> with_reducible rfl)); (try simp only [Act.put, List.setIfInBounds_toArray, List.set_cons_zero, List.set_cons_succ]))
    refine wpAnyH_ready (rs := [29]) (by decide +kernel) (by simp) ?_
    refine AllReadyH.cons rfl (fun K hK => ?_) AllReadyH.nil
    go_simp
    go_at_call 24
    refine (CM.out Ae Ag ce cg _ (FME1.out _ BB0.out) (FMG1.out _ BB0.out)).mono ?_
    rintro e wz0 ⟨rfl, hb⟩
    have BB1 := Lib.hid (belG BB0.out hb BB0.out.size)
    clear hb
    refine hK.out _ _ (KEEP.out _ BB1.out) (fun hHeld => ?_)
    clear hK K
    (try simp only [Act.put, List.setIfInBounds_toArray, List.set_cons_zero, List.set_cons_succ])
    (refine wpAnyH_take (i := 30) (oi := ?_) (v := ?_) ?_ (by kernel_rfl) (by decide +kernel) (by decide +kernel) (fun _ _ _ h => h) ?_ (by assumption) ?_; rotate_left 2; (focus (simp only [List.getElem?_toArray] <;> rfl)); (focus (refine Or.inl ⟨by rfl, ?_⟩; intro w hSw; (try dsimp only at hSw); go_simp <;> with_reducible rfl)); (try simp only [Act.put, List.setIfInBounds_toArray, List.set_cons_zero, List.set_cons_succ]))
    (refine wpAnyH_take (i := 31) (oi := ?_) (v := ?_) ?_ (by kernel_rfl) (by decide +kernel) (by decide +kernel) (fun _ _ _ h => h) ?_ (by assumption) ?_; rotate_left 2; (focus (simp only [List.getElem?_toArray] <;> rfl)); (focus (refine Or.inl ⟨by rfl, ?_⟩; intro w hSw; (try dsimp only at hSw); go_simp <;> with_reducible rfl)); (try simp only [Act.put, List.setIfInBounds_toArray, List.set_cons_zero, List.set_cons_succ]))
    (refine wpAnyH_take (i := 32) (oi := ?_) (v := ?_) ?_ (by kernel_rfl) (by decide +kernel) (by decide +kernel) (fun _ _ _ h => h) ?_ (by assumption) ?_; rotate_left 2; (focus (simp only [List.getElem?_toArray] <;> rfl)); (focus (refine Or.inl ⟨by rfl, ?_⟩; intro w hSw; (try dsimp only at hSw); go_simp <;> with_reducible rfl)); (try simp only [Act.put, List.setIfInBounds_toArray, List.set_cons_zero, List.set_cons_succ]))
    (refine wpAnyH_take (i := 33) (oi := ?_) (v := ?_) ?_ (by kernel_rfl) (by decide +kernel) (by decide +kernel) (fun _ _ _ h => h) ?_ (by assumption) ?_; rotate_left 2; (focus (simp only [List.getElem?_toArray] <;> rfl)); (focus (refine Or.inl ⟨by rfl, ?_⟩; intro w hSw; (try dsimp only at hSw); go_simp <;> with_reducible rfl)); (try simp only [Act.put, List.setIfInBounds_toArray, List.set_cons_zero, List.set_cons_succ]))
    (refine wpAnyH_take (i := 34) (oi := ?_) (v := ?_) ?_ (by kernel_rfl) (by decide +kernel) (by decide +kernel) (fun _ _ _ h => h) ?_ (by assumption) ?_; rotate_left 2; (focus (simp only [List.getElem?_toArray] <;> rfl)); (focus (refine Or.inl ⟨by rfl, ?_⟩; intro w hSw; (try dsimp only at hSw); go_simp <;> with_reducible rfl)); (try simp only [Act.put, List.setIfInBounds_toArray, List.set_cons_zero, List.set_cons_succ]))
    (refine wpAnyH_take (i := 35) (oi := ?_) (v := ?_) ?_ (by kernel_rfl) (by decide +kernel) (by decide +kernel) (fun _ _ _ h => h) ?_ (by assumption) ?_; rotate_left 2; (focus (simp only [List.getElem?_toArray] <;> rfl)); (focus (refine Or.inl ⟨by rfl, ?_⟩; intro w hSw; (try dsimp only at hSw); go_simp <;> with_reducible rfl)); (try simp only [Act.put, List.setIfInBounds_toArray, List.set_cons_zero, List.set_cons_succ]))
    (refine wpAnyH_take (i := 36) (oi := ?_) (v := ?_) ?_ (by kernel_rfl) (by decide +kernel) (by decide +kernel) (fun _ _ _ h => h) ?_ (by assumption) ?_; rotate_left 2; (focus (simp only [List.getElem?_toArray] <;> rfl)); (focus (refine Or.inl ⟨by rfl, ?_⟩; intro w hSw; (try dsimp only at hSw); go_simp <;> with_reducible rfl)); (try simp only [Act.put, List.setIfInBounds_toArray, List.set_cons_zero, List.set_cons_succ]))
    (refine wpAnyH_take (i := 37) (oi := ?_) (v := ?_) ?_ (by kernel_rfl) (by decide +kernel) (by decide +kernel) (fun _ _ _ h => h) ?_ (by assumption) ?_; rotate_left 2; (focus (simp only [List.getElem?_toArray] <;> rfl)); (focus (refine Or.inl ⟨by rfl, ?_⟩; intro w hSw; (try dsimp only at hSw); go_simp <;> with_reducible rfl)); (try simp only [Act.put, List.setIfInBounds_toArray, List.set_cons_zero, List.set_cons_succ]))
    (refine wpAnyH_take (i := 38) (oi := ?_) (v := ?_) ?_ (by kernel_rfl) (by decide +kernel) (by decide +kernel) (fun _ _ _ h => h) ?_ (by assumption) ?_; rotate_left 2; (focus (simp only [List.getElem?_toArray] <;> rfl)); (focus (refine Or.inl ⟨by rfl, ?_⟩; intro w hSw; (try dsimp only at hSw); go_simp <;> with_reducible rfl)); (try simp only [Act.put, List.setIfInBounds_toArray, List.set_cons_zero, List.set_cons_succ]))
    (refine wpAnyH_take (i := 39) (oi := ?_) (v := ?_) ?_ (by kernel_rfl) (by decide +kernel) (by decide +kernel) (fun _ _ _ h => h) ?_ (by assumption) ?_; rotate_left 2; (focus (simp only [List.getElem?_toArray] <;> rfl)); (focus (refine Or.inl ⟨by rfl, ?_⟩; intro w hSw; (try dsimp only at hSw); go_simp <;> with_reducible rfl)); (try simp only [Act.put, List.setIfInBounds_toArray, List.set_cons_zero, List.set_cons_succ]))
    (refine wpAnyH_take (i := 40) (oi := ?_) (v := ?_) ?_ (by kernel_rfl) (by decide +kernel) (by decide +kernel) (fun _ _ _ h => h) ?_ (by assumption) ?_; rotate_left 2; (focus (simp only [List.getElem?_toArray] <;> rfl)); (focus (refine Or.inl ⟨by rfl, ?_⟩; intro w hSw; (try dsimp only at hSw); go_simp <;> with_reducible rfl)); (try simp only [Act.put, List.setIfInBounds_toArray, List.set_cons_zero, List.set_cons_succ]))
    (refine wpAnyH_take (i := 41) (oi := ?_) (v := ?_) ?_ (by kernel_rfl) (by decide +kernel) (by decide +kernel) (fun _ _ _ h => h) ?_ (by assumption) ?_; rotate_left 2; (focus (simp only [List.getElem?_toArray] <;> rfl)); (focus (refine Or.inl ⟨by rfl, ?_⟩; intro w hSw; (try dsimp only at hSw); go_simp <;> with_reducible rfl)); (try simp only [Act.put, List.setIfInBounds_toArray, List.set_cons_zero, List.set_cons_succ]))
    (refine wpAnyH_take (i := 42) (oi := ?_) (v := ?_) ?_ (by kernel_rfl) (by decide +kernel) (by decide +kernel) (fun _ _ _ h => h) ?_ (by assumption) ?_; rotate_left 2; (focus (simp only [List.getElem?_toArray] <;> rfl)); (focus (refine Or.inl ⟨by rfl, ?_⟩; intro w hSw; (try dsimp only at hSw); go_simp <;> with_reducible rfl)); (try simp only [Act.put, List.setIfInBounds_toArray, List.set_cons_zero, List.set_cons_succ]))
    (refine wpAnyH_take (i := 43) (oi := ?_) (v := ?_) ?_ (by kernel_rfl) (by decide +kernel) (by decide +kernel) (fun _ _ _ h => h) ?_ (by assumption) ?_; rotate_left 2; (focus (simp only [List.getElem?_toArray] <;> rfl)); (focus (refine Or.inl ⟨by rfl, ?_⟩; intro w hSw; (try dsimp only at hSw); go_simp <;> with_reducible rfl)); (try simp only [Act.put, List.setIfInBounds_toArray, List.set_cons_zero, List.set_cons_succ]))
    (refine wpAnyH_take (i := 44) (oi := ?_) (v := ?_) ?_ (by kernel_rfl) (by decide +kernel) (by decide +kernel) (fun _ _ _ h => h) ?_ (by assumption) ?_; rotate_left 2; (focus (simp only [List.getElem?_toArray] <;> rfl)); (focus (refine Or.inl ⟨by rfl, ?_⟩; intro w hSw; (try dsimp only at hSw); go_simp <;> with_reducible rfl)); (try simp only [Act.put, List.setIfInBounds_toArray, List.set_cons_zero, List.set_cons_succ]))
    (refine wpAnyH_take (i := 45) (oi := ?_) (v := ?_) ?_ (by kernel_rfl) (by decide +kernel) (by decide +kernel) (fun _ _ _ h => h) ?_ (by assumption) ?_; rotate_left 2; (focus (simp only [List.getElem?_toArray] <;> rfl)); (focus (refine Or.inl ⟨by rfl, ?_⟩; intro w hSw; (try dsimp only at hSw); go_simp <;> with_reducible rfl)); (try simp only [Act.put, List.setIfInBounds_toArray, List.set_cons_zero, List.set_cons_succ]))
    (refine wpAnyH_take (i := 46) (oi := ?_) (v := ?_) ?_ (by kernel_rfl) (by decide +kernel) (by decide +kernel) (fun _ _ _ h => h) ?_ (by assumption) ?_; rotate_left 2; (focus (simp only [List.getElem?_toArray] <;> rfl)); (focus (refine Or.inl ⟨by rfl, ?_⟩; intro w hSw; (try dsimp only at hSw); go_simp <;> with_reducible rfl)); (try simp only [Act.put, List.setIfInBounds_toArray, List.set_cons_zero, List.set_cons_succ]))
    (refine wpAnyH_take (i := 47) (oi := ?_) (v := ?_) ?_ (by kernel_rfl) (by decide +kernel) (by decide +kernel) (fun _ _ _ h => h) ?_ (by assumption) ?_; rotate_left 2; (focus (simp only [List.getElem?_toArray] <;> rfl)); (focus (refine Or.inl ⟨by rfl, ?_⟩; intro w hSw; (try dsimp only at hSw); go_simp <;> with_reducible rfl)); (try simp only [Act.put, List.setIfInBounds_toArray, List.set_cons_zero, List.set_cons_succ]))
    (refine wpAnyH_take (i := 48) (oi := ?_) (v := ?_) ?_ (by kernel_rfl) (by decide +kernel) (by decide +kernel) (fun _ _ _ h => h) ?_ (by assumption) ?_; rotate_left 2; (focus (simp only [List.getElem?_toArray] <;> rfl)); (focus (refine Or.inl ⟨by rfl, ?_⟩; intro w hSw; (try dsimp only at hSw); go_simp <;> with_reducible rfl)); (try simp only [Act.put, List.setIfInBounds_toArray, List.set_cons_zero, List.set_cons_succ]))
    (refine wpAnyH_take (i := 49) (oi := ?_) (v := ?_) ?_ (by kernel_rfl) (by decide +kernel) (by decide +kernel) (fun _ _ _ h => h) ?_ (by assumption) ?_; rotate_left 2; (focus (simp only [List.getElem?_toArray] <;> rfl)); (focus (refine Or.inl ⟨by rfl, ?_⟩; intro w hSw; (try dsimp only at hSw); go_simp <;> with_reducible rfl)); (try simp only [Act.put, List.setIfInBounds_toArray, List.set_cons_zero, List.set_cons_succ]))
    (refine wpAnyH_take (i := 50) (oi := ?_) (v := ?_) ?_ (by kernel_rfl) (by decide +kernel) (by decide +kernel) (fun _ _ _ h => h) ?_ (by assumption) ?_; rotate_left 2; (focus (simp only [List.getElem?_toArray] <;> rfl)); (focus (refine Or.inl ⟨by rfl, ?_⟩; intro w hSw; (try dsimp only at hSw); go_simp <;> with_reducible rfl)); (try simp only [Act.put, List.setIfInBounds_toArray, List.set_cons_zero, List.set_cons_succ]))
    (refine wpAnyH_take (i := 51) (oi := ?_) (v := ?_) ?_ (by kernel_rfl) (by decide +kernel) (by decide +kernel) (fun _ _ _ h => h) ?_ (by assumption) ?_; rotate_left 2; (focus (simp only [List.getElem?_toArray] <;> rfl)); (focus (refine Or.inl ⟨by rfl, ?_⟩; intro w hSw; (try dsimp only at hSw); go_simp <;> with_reducible rfl)); (try simp only [Act.put, List.setIfInBounds_toArray, List.set_cons_zero, List.set_cons_succ]))
    (refine wpAnyH_take (i := 52) (oi := ?_) (v := ?_) ?_ (by kernel_rfl) (by decide +kernel) (by decide +kernel) (fun _ _ _ h => h) ?_ (by assumption) ?_; rotate_left 2; (focus (simp only [List.getElem?_toArray] <;> rfl)); (focus (refine Or.inl ⟨by rfl, ?_⟩; intro w hSw; (try dsimp only at hSw); go_simp <;> with_reducible rfl)); (try simp only [Act.put, List.setIfInBounds_toArray, List.set_cons_zero, List.set_cons_succ]))
    (refine wpAnyH_take (i := 53) (oi := ?_) (v := ?_) ?_ (by kernel_rfl) (by decide +kernel) (by decide +kernel) (fun _ _ _ h => h) ?_ (by assumption) ?_; rotate_left 2; (focus (simp only [List.getElem?_toArray] <;> rfl)); (focus (refine Or.inl ⟨by rfl, ?_⟩; intro w hSw; (try dsimp only at hSw); go_simp <;> with_reducible rfl)); (try simp only [Act.put, List.setIfInBounds_toArray, List.set_cons_zero, List.set_cons_succ]))
    (refine wpAnyH_take (i := 54) (oi := ?_) (v := ?_) ?_ (by kernel_rfl) (by decide +kernel) (by decide +kernel) (fun _ _ _ h => h) ?_ (by assumption) ?_; rotate_left 2; (focus (simp only [List.getElem?_toArray] <;> rfl)); (focus (refine Or.inl ⟨by rfl, ?_⟩; intro w hSw; (try dsimp only at hSw); go_simp <;> with_reducible rfl)); (try simp only [Act.put, List.setIfInBounds_toArray, List.set_cons_zero, List.set_cons_succ]))
    (refine wpAnyH_take (i := 55) (oi := ?_) (v := ?_) ?_ (by kernel_rfl) (by decide +kernel) (by decide +kernel) (fun _ _ _ h => h) ?_ (by assumption) ?_; rotate_left 2; (focus (simp only [List.getElem?_toArray] <;> rfl)); (focus (refine Or.inl ⟨by rfl, ?_⟩; intro w hSw; (try dsimp only at hSw); go_simp <;> with_reducible rfl)); (try simp only [Act.put, List.setIfInBounds_toArray, List.set_cons_zero, List.set_cons_succ]))
    (refine wpAnyH_take (i := 56) (oi := ?_) (v := ?_) ?_ (by kernel_rfl) (by decide +kernel) (by decide +kernel) (fun _ _ _ h => h) ?_ (by assumption) ?_; rotate_left 2; (focus (simp only [List.getElem?_toArray] <;> rfl)); (focus (refine Or.inl ⟨by rfl, ?_⟩; intro w hSw; (try dsimp only at hSw); go_simp <;> with_reducible rfl)); (try simp only [Act.put, List.setIfInBounds_toArray, List.set_cons_zero, List.set_cons_succ]))
    (refine wpAnyH_take (i := 57) (oi := ?_) (v := ?_) ?_ (by kernel_rfl) (by decide +kernel) (by decide +kernel) (fun _ _ _ h => h) ?_ (by assumption) ?_; rotate_left 2; (focus (simp only [List.getElem?_toArray] <;> rfl)); (focus (refine Or.inl ⟨by rfl, ?_⟩; intro w hSw; (try dsimp only at hSw); go_simp <;> with_reducible rfl)); (try simp only [Act.put, List.setIfInBounds_toArray, List.set_cons_zero, List.set_cons_succ]))
    (refine wpAnyH_take (i := 58) (oi := ?_) (v := ?_) ?_ (by kernel_rfl) (by decide +kernel) (by decide +kernel) (fun _ _ _ h => h) ?_ (by assumption) ?_; rotate_left 2; (focus (simp only [List.getElem?_toArray] <;> rfl)); (focus (refine Or.inl ⟨by rfl, ?_⟩; intro w hSw; (try dsimp only at hSw); go_simp <;> with_reducible rfl)); (try simp only [Act.put, List.setIfInBounds_toArray, List.set_cons_zero, List.set_cons_succ]))
    (refine wpAnyH_take (i := 59) (oi := ?_) (v := ?_) ?_ (by kernel_rfl) (by decide +kernel) (by decide +kernel) (fun _ _ _ h => h) ?_ (by assumption) ?_; rotate_left 2; (focus (simp only [List.getElem?_toArray] <;> rfl)); (focus (refine Or.inl ⟨by rfl, ?_⟩; intro w hSw; (try dsimp only at hSw); go_simp <;> with_reducible rfl)); (try simp only [Act.put, List.setIfInBounds_toArray, List.set_cons_zero, List.set_cons_succ]))
    (refine wpAnyH_take (i := 60) (oi := ?_) (v := ?_) ?_ (by kernel_rfl) (by decide +kernel) (by decide +kernel) (fun _ _ _ h => h) ?_ (by assumption) ?_; rotate_left 2; (focus (simp only [List.getElem?_toArray] <;> rfl)); (focus (refine Or.inl ⟨by rfl, ?_⟩; intro w hSw; (try dsimp only at hSw); go_simp <;> with_reducible rfl)); (try simp only [Act.put, List.setIfInBounds_toArray, List.set_cons_zero, List.set_cons_succ]))
    (refine wpAnyH_take (i := 61) (oi := ?_) (v := ?_) ?_ (by kernel_rfl) (by decide +kernel) (by decide +kernel) (fun _ _ _ h => h) ?_ (by assumption) ?_; rotate_left 2; (focus (simp only [List.getElem?_toArray] <;> rfl)); (focus (refine Or.inl ⟨by rfl, ?_⟩; intro w hSw; (try dsimp only at hSw); go_simp <;> with_reducible rfl)); (try simp only [Act.put, List.setIfInBounds_toArray, List.set_cons_zero, List.set_cons_succ]))
    refine wpAnyH_ready (rs := [62]) (by decide +kernel) (by simp) ?_
    refine AllReadyH.cons rfl (fun K hK => ?_) AllReadyH.nil
    go_simp
    go_at_call 27
    refine (CE.out xd _ (FRD1.out _ BB1.out)).mono ?_
    rintro e wz1 ⟨rfl, hb⟩
    have BB2 := Lib.hid (belG BB1.out hb BB1.out.size)
    clear hb
    refine hK.out _ _ (KEEP.out _ BB2.out) (fun hHeld => ?_)
    clear hK K
    (try simp only [Act.put, List.setIfInBounds_toArray, List.set_cons_zero, List.set_cons_succ])
    (refine wpAnyH_take (i := 63) (oi := ?_) (v := ?_) ?_ (by kernel_rfl) (by decide +kernel) (by decide +kernel) (fun _ _ _ h => h) ?_ (by assumption) ?_; rotate_left 2; (focus (simp only [List.getElem?_toArray] <;> rfl)); (focus (refine Or.inl ⟨by rfl, ?_⟩; intro w hSw; (try dsimp only at hSw); go_simp <;> with_reducible rfl)); (try simp only [Act.put, List.setIfInBounds_toArray, List.set_cons_zero, List.set_cons_succ]))
    (refine wpAnyH_take (i := 64) (oi := ?_) (v := ?_) ?_ (by kernel_rfl) (by decide +kernel) (by decide +kernel) (fun _ _ _ h => h) ?_ (by assumption) ?_; rotate_left 2; (focus (simp only [List.getElem?_toArray] <;> rfl)); (focus (refine Or.inl ⟨by rfl, ?_⟩; intro w hSw; (try dsimp only at hSw); go_simp <;> with_reducible rfl)); (try simp only [Act.put, List.setIfInBounds_toArray, List.set_cons_zero, List.set_cons_succ]))
    refine wpAnyH_done (by decide +kernel) ?_ _
    refine NoPanic.normal ?_
    clear KEEP
    have nHB := Lib.hid (F0.out _ BB2.out)
    have nME1 := Lib.hid (FME1.out _ BB2.out)
    have nMG1 := Lib.hid (FMG1.out _ BB2.out)
    have nRD1 := Lib.hid (FRD1.out _ BB2.out)
    have nGD := Lib.hid (BoxH.old GD.out BB2.out (Nat.le_refl _))
    have nG9 := Lib.hid (BoxH.old G9.out BB2.out (Nat.le_refl _))
    have nGB := Lib.hid (BoxH.old GB.out BB2.out (Nat.le_refl _))
    clear F0 FME1 FMG1 FRD1
    clear HB ME1 MG1 RD1 GD G9 GB
    have HB := nHB
    have ME1 := nME1
    have MG1 := nMG1
    have RD1 := nRD1
    have GD := nGD
    have G9 := nG9
    have GB := nGB
    clear nHB nME1 nMG1 nRD1 nGD nG9 nGB
    go_wp2_with (first | (refine loadHb _ (.tmp 9) g9 x h G9.out rfl rfl rfl ?_) | (refine loadHb _ (.tmp 15) gb xb Q1 GB.out rfl rfl rfl ?_) | (refine loadHb _ (.tmp 20) gd xd S1 GD.out rfl rfl rfl ?_))
    go_ret
    exact ⟨by first | rfl | simp, HB.out⟩
  | false =>
    rw [hu] at HUQ
    obtain ⟨H1, hH⟩ : ∃ H, H = raiseH h q := ⟨_, rfl⟩
    have rH : RightHb H1 := by rw [hH]; exact raise_right HRT.out q
    have bH : Hb64 H1 := by rw [hH]; exact raise_64 HL.out q
    have uH : H1.up q = true := by rw [hH]; exact upd_same _ _ _
    have C0 := Lib.hid (fun (y : Wh) w (r0 : HubR w y h) => (show Calls Try.prog 18 #[.agg (hubC y h), .int .i64 (q : Nat)] w fun e W' => AnsHb W' e H1 0 ∧ Below w.heap.size w W' from by
      have h9 := hRaise_any y h (q : Nat) w HRT.out HL.out r0 (b64_nat hq4)
      rw [raise_lives hu hq4, ← hH] at h9
      exact h9))
    unfold AnsHb at C0
    clear hu hH
    obtain ⟨P1, hP1⟩ : ∃ P, P = pushH H1 q a := ⟨_, rfl⟩
    obtain ⟨Q1, hQ1⟩ : ∃ P, P = cutH P1 q := ⟨_, rfl⟩
    obtain ⟨S1, hS1⟩ : ∃ P, P = raiseH Q1 q := ⟨_, rfl⟩
    have rP : RightHb P1 := by rw [hP1]; exact push_right rH hq4 uH a
    have bP : Hb64 P1 := by rw [hP1]; exact push_64 bH rH hq4 a
    have rQ : RightHb Q1 := by rw [hQ1]; exact cut_right rP q
    have bQ : Hb64 Q1 := by rw [hQ1]; exact cut_64 bP q
    have rS : RightHb S1 := by rw [hS1]; exact raise_right rQ q
    have bS : Hb64 S1 := by rw [hS1]; exact raise_64 bQ q
    have uP : P1.up q = true := by rw [hP1]; exact uH
    have uQ : Q1.up q = false := by rw [hQ1]; exact upd_same _ _ _
    have uS : S1.up q = true := by rw [hS1]; exact upd_same _ _ _
    have fS : S1.fd q = fd0 := by rw [hS1]; exact upd_same _ _ _
    have lS : S1.life q = wrap64 (H1.life q + 1) := by
      rw [hS1]
      show upd Q1.life q (wrap64 (Q1.life q + 1)) q = _
      rw [upd_same, hQ1, hP1]
      rfl
    have hrw : (pushF fd0 l).2.length ≤ 100000 := by have h1 := push_len l fd0; have h2 := HLB.out; omega
    have C1 := Lib.hid (fun (y : Wh) w (r0 : HubR w y H1) (r1 : Rd w w.heap.size A a) => (show Calls Try.prog 22 #[.agg (hubC y H1), .int .i64 (q : Nat), .slice A n j] w fun e W' => AnsPu W' e (P1, (pushF (H1.fd q) a).2, 0) ∧ Below w.heap.size w W' from by
      have h9 := hPush_any y H1 (q : Nat) A a j w rH bH r0 (b64_nat hq4) HLA.out HA.out.1 HA.out.2 r1
      rw [push_lives uH hq4, ← HN.out, ← hP1] at h9
      exact h9))
    have C2 := Lib.hid (fun (y : Wh) w (r0 : HubR w y P1) => (show Calls Try.prog 20 #[.agg (hubC y P1), .int .i64 (q : Nat)] w fun e W' => AnsHb W' e Q1 0 ∧ Below w.heap.size w W' from by
      have h9 := hCut_any y P1 (q : Nat) w rP bP r0 (b64_nat hq4)
      rw [cut_lives uP hq4, ← hQ1] at h9
      exact h9))
    have C3 := Lib.hid (fun (y : Wh) w (r0 : HubR w y Q1) (r1 : Rd w w.heap.size B l) => (show Calls Try.prog 22 #[.agg (hubC y Q1), .int .i64 (q : Nat), .slice B m k] w fun e W' => AnsPu W' e (Q1, [], 11) ∧ Below w.heap.size w W' from by
      have h9 := hPush_any y Q1 (q : Nat) B l k w rQ bQ r0 (b64_nat hq4) HLB.out HK.out.1 HK.out.2 r1
      rw [push_down uQ hq4, ← HM.out] at h9
      exact h9))
    have C4 := Lib.hid (fun (y : Wh) w (r0 : HubR w y Q1) => (show Calls Try.prog 18 #[.agg (hubC y Q1), .int .i64 (q : Nat)] w fun e W' => AnsHb W' e S1 0 ∧ Below w.heap.size w W' from by
      have h9 := hRaise_any y Q1 (q : Nat) w rQ bQ r0 (b64_nat hq4)
      rw [raise_lives uQ hq4, ← hS1] at h9
      exact h9))
    have C5 := Lib.hid (fun (y : Wh) w (r0 : HubR w y S1) (r1 : Rd w w.heap.size B l) => (show Calls Try.prog 22 #[.agg (hubC y S1), .int .i64 (q : Nat), .slice B m k] w fun e W' => AnsPu W' e (pushH S1 q l, (pushF fd0 l).2, 0) ∧ Below w.heap.size w W' from by
      have h9 := hPush_any y S1 (q : Nat) B l k w rS bS r0 (b64_nat hq4) HLB.out HK.out.1 HK.out.2 r1
      rw [push_lives uS hq4, ← HM.out, fS] at h9
      exact h9))
    have C6 := Lib.hid (fun w (r1 : Rd w w.heap.size B l) => (show Calls Try.prog 26 #[.agg #[.slice none 0 0, .int .i64 0, .int .i64 0], .slice B m k] w fun e W' => AnsPush W' e (pushF fd0 l).1 (pushF fd0 l).2 ∧ Below w.heap.size w W' from by
      have h9 := refPush_any none [] 0 0 0 B l k w right_fd0 (Nat.le_refl _) (by decide) Rd.nil (by have := HLB.out; omega) r1
      rw [← HM.out] at h9
      exact h9))
    have CM := Lib.hid (fun (A1 A2 : Option Addr) (c1 c2 : Nat) w (k1 : Mat w w.heap.size A1 (pushF fd0 l).2) (k2 : Mat w w.heap.size A2 (pushF fd0 l).2) => rows2_any A1 A2 (pushF fd0 l).2 (pushF fd0 l).2 c1 c2 w k1 k2 hrw hrw)
    have CE := Lib.hid (fun (y : Wh) w (r0 : HubR w y S1) => (show Calls Try.prog 27 #[.agg #[slH y S1 q, .int .i64 (S1.fd q).skip, .int .i64 (S1.fd q).bad], .agg #[.slice none 0 0, .int .i64 0, .int .i64 0]] w fun e W' => e = .returned (.bool true) ∧ Below w.heap.size w W' from by
      have h9 := refSame8_any (y q).1 none (S1.fd q).buf [] (y q).2 0 (S1.fd q).skip (S1.fd q).bad 0 0 w (r0 q hq4).2.2 Rd.nil
      rw [decide_eq_true (by rw [fS]; exact ⟨rfl, rfl, rfl⟩)] at h9
      exact h9))
    simp only [decide_true] at CM
    unfold AnsPu at C1 C3 C5
    unfold AnsHb at C2 C4
    unfold AnsPush at C6
    simp only [List.length_nil] at C3
    have HLS := Lib.hid (show wrap64 (H1.life q + 1) = S1.life q from lS.symm)
    have HSU := Lib.hid uS
    have HQU := Lib.hid uQ
    generalize (pushF (H1.fd q) a).2 = rs1 at *
    generalize (pushF fd0 l).2.length = nr at *
    generalize (pushF fd0 l).2 = rs2 at *
    generalize (pushF fd0 l).1 = fd9 at *
    generalize pushH S1 q l = H9 at *
    clear hP1 hQ1 hS1 rP bP rQ bQ rS bS uP uQ uS fS lS hrw rH bH uH
    obtain ⟨C, hC⟩ : ∃ C, C = hubCw x h (.int .u8 o) (.slice A n j) (.slice B m k) := ⟨_, rfl⟩
    have hb := (Below.refl W.heap.size W).alloc (Nat.le_refl _) (.cells C 55)
    have hg := heap_alloc_new W (.cells C 55)
    obtain ⟨V0, hV⟩ : ∃ V, V = W.alloc (.cells C 55) := ⟨_, rfl⟩
    rw [← hV] at hb hg
    have HB := Lib.hid hb
    have hgw : V0.heap[W.heap.size]? = some (.cells (hubCw x h (.int .u8 o) (.slice A n j) (.slice B m k)) 55 (0, 0)) := by rw [← hC]; exact hg
    have GW := Lib.hid hgw
    rw [← hC]
    have nR0 := Lib.hid ((R0.out.below hb (Nat.le_refl _)).more hb.size)
    have nR1 := Lib.hid ((R1.out.below hb (Nat.le_refl _)).more hb.size)
    have nR2 := Lib.hid ((R2.out.below hb (Nat.le_refl _)).more hb.size)
    have HV := Lib.hid hV
    clear hb hg hV hC hgw
    clear R0 R1 R2
    have R0 := nR0
    have R1 := nR1
    have R2 := nR2
    clear nR0 nR1 nR2
    go_enter Try.func7, Try.ntmps7
    go_upto_region 1 with (fail)
    rw [← HV.out]
    clear HV
    have PW := Lib.hid (show Below V0.heap.size V0 V0 from Below.refl _ _)
    have GWP := GW
    have LB := Lib.hid HB.out.size
    obtain ⟨V1, hV1⟩ : ∃ V, V = V0.alloc (.cells (hubC x h) 29) := ⟨_, rfl⟩
    have ha := (Below.refl V0.heap.size V0).alloc (Nat.le_refl _) (.cells (hubC x h) 29)
    have hg := heap_alloc_new V0 (.cells (hubC x h) 29)
    have nHB := Lib.hid (HB.out.alloc HB.out.size (.cells (hubC x h) 29))
    rw [← hV1] at ha hg nHB
    have nR0 := Lib.hid ((R0.out.below ha (Nat.le_refl _)).more ha.size)
    have nR1 := Lib.hid ((R1.out.below ha (Nat.le_refl _)).more ha.size)
    have nR2 := Lib.hid ((R2.out.below ha (Nat.le_refl _)).more ha.size)
    have nGW := Lib.hid (oldG GW.out ha (Nat.le_refl _))
    obtain ⟨g3, hg3⟩ : ∃ g, g = V0.heap.size := ⟨_, rfl⟩
    rw [← hg3] at hg
    have HXG3 := Lib.hid hg3
    have G3 := Lib.hid hg
    have HV := Lib.hid hV1
    clear ha hg hV1 hg3
    clear HB R0 R1 R2 GW
    have HB := nHB
    have R0 := nR0
    have R1 := nR1
    have R2 := nR2
    have GW := nGW
    clear nHB nR0 nR1 nR2 nGW
    have LEG3 := Lib.hid (show W.heap.size ≤ g3 from by rw [HXG3.out]; exact LB.out)
    clear LB
    go_upto_region 2 with (first | (refine loadHw _ (.tmp 27) W.heap.size _ x h _ _ _ GWP.out rfl rfl rfl ?_) | (refine storeHb _ (.tmp 3) (.tmp 28) _ x h _ (heap_alloc_new _ _) rfl rfl rfl rfl rfl ?_; rw [setRowG_fold]))
    rw [← HV.out]
    (try rw [← HXG3.out])
    clear HV HXG3
    have u0 := (cell_of_row _ _ 21 _ _ _ GW.out).trans (hubCw_a _ _ _ _ _)
    have u1 := (cell_of_row _ _ 22 _ _ _ GW.out).trans (hubCw_b _ _ _ _ _)
    have u2 := (cell_of_row _ _ 23 _ _ _ GW.out).trans (hubCw_c _ _ _ _ _)
    clear PW GWP
    go_wp2_with (first | (refine loadHb _ (.tmp 3) g3 x h G3.out rfl rfl rfl ?_))
    clear u0 u1 u2 GW
    refine (shown9_any _).mono ?_
    rintro e w2 ⟨rfl, hb⟩
    have nHB := Lib.hid (belG HB.out hb HB.out.size)
    have nR0 := Lib.hid ((R0.out.below hb (Nat.le_refl _)).more hb.size)
    have nR1 := Lib.hid ((R1.out.below hb (Nat.le_refl _)).more hb.size)
    have nR2 := Lib.hid ((R2.out.below hb (Nat.le_refl _)).more hb.size)
    have nG3 := Lib.hid (oldG G3.out hb (Nat.le_refl _))
    clear hb
    clear HB R0 R1 R2 G3
    have HB := nHB
    have R0 := nR0
    have R1 := nR1
    have R2 := nR2
    have G3 := nG3
    clear nHB nR0 nR1 nR2 nG3
    go_wp2_with (first | (refine loadHb _ (.tmp 3) g3 x h G3.out rfl rfl rfl ?_))
    refine (CF.out _).mono ?_
    rintro e w3 ⟨rfl, hb⟩
    have nHB := Lib.hid (belG HB.out hb HB.out.size)
    have nR0 := Lib.hid ((R0.out.below hb (Nat.le_refl _)).more hb.size)
    have nR1 := Lib.hid ((R1.out.below hb (Nat.le_refl _)).more hb.size)
    have nR2 := Lib.hid ((R2.out.below hb (Nat.le_refl _)).more hb.size)
    have nG3 := Lib.hid (oldG G3.out hb (Nat.le_refl _))
    clear hb
    clear HB R0 R1 R2 G3
    have HB := nHB
    have R0 := nR0
    have R1 := nR1
    have R2 := nR2
    have G3 := nG3
    clear nHB nR0 nR1 nR2 nG3
    go_wp2_with (first | (refine loadHb _ (.tmp 3) g3 x h G3.out rfl rfl rfl ?_))
    refine (CR.out _ HB.out R0.out).mono ?_
    rintro e w4 ⟨rfl, hb⟩
    have nHB := Lib.hid (belG HB.out hb HB.out.size)
    have nR0 := Lib.hid ((R0.out.below hb (Nat.le_refl _)).more hb.size)
    have nR1 := Lib.hid ((R1.out.below hb (Nat.le_refl _)).more hb.size)
    have nR2 := Lib.hid ((R2.out.below hb (Nat.le_refl _)).more hb.size)
    have nG3 := Lib.hid (oldG G3.out hb (Nat.le_refl _))
    clear hb
    clear HB R0 R1 R2 G3
    have HB := nHB
    have R0 := nR0
    have R1 := nR1
    have R2 := nR2
    have G3 := nG3
    clear nHB nR0 nR1 nR2 nG3
    go_upto_region 9 with (first | (refine loadHb _ (.tmp 3) g3 x h G3.out rfl rfl rfl ?_))
    have G3P := G3
    have LB := Lib.hid HB.out.size
    have LTG3 := Lib.hid (show g3 < w4.heap.size from (Array.getElem?_eq_some_iff.1 G3.out).1)
    obtain ⟨V4, hV4⟩ : ∃ V, V = w4.alloc (.cells (hubC x h) 29) := ⟨_, rfl⟩
    have ha := (Below.refl w4.heap.size w4).alloc (Nat.le_refl _) (.cells (hubC x h) 29)
    have hg := heap_alloc_new w4 (.cells (hubC x h) 29)
    have nHB := Lib.hid (HB.out.alloc HB.out.size (.cells (hubC x h) 29))
    rw [← hV4] at ha hg nHB
    have nR0 := Lib.hid ((R0.out.below ha (Nat.le_refl _)).more ha.size)
    have nR1 := Lib.hid ((R1.out.below ha (Nat.le_refl _)).more ha.size)
    have nR2 := Lib.hid ((R2.out.below ha (Nat.le_refl _)).more ha.size)
    have nG3 := Lib.hid (oldG G3.out ha (Nat.le_refl _))
    obtain ⟨g9, hg9⟩ : ∃ g, g = w4.heap.size := ⟨_, rfl⟩
    rw [← hg9] at hg
    have HXG9 := Lib.hid hg9
    have G9 := Lib.hid hg
    have HV := Lib.hid hV4
    clear ha hg hV4 hg9
    clear HB R0 R1 R2 G3
    have HB := nHB
    have R0 := nR0
    have R1 := nR1
    have R2 := nR2
    have G3 := nG3
    clear nHB nR0 nR1 nR2 nG3
    have LEG9 := Lib.hid (show W.heap.size ≤ g9 from by rw [HXG9.out]; exact LB.out)
    have NEG3G9 := Lib.hid (show g3 ≠ g9 from by have h1 := LTG3.out; rw [HXG9.out]; omega)
    have NEG9G3 := Lib.hid (NEG3G9.out.symm)
    clear LB LTG3
    go_upto_region 10 with (first | (refine loadHb _ (.tmp 3) g3 x h G3P.out rfl rfl rfl ?_) | (refine storeHb _ (.tmp 9) (.tmp 58) _ x h _ (heap_alloc_new _ _) rfl rfl rfl rfl rfl ?_; rw [setRowG_fold]))
    rw [← HV.out]
    (try rw [← HXG9.out])
    clear HV HXG9
    clear G3P
    have y0 := BoxH.cell G3.out HUQ.out
    go_wp2_with (first | (refine loadHb _ (.tmp 3) g3 x h G3.out rfl rfl rfl ?_) | (refine loadHb _ (.tmp 9) g9 x h G9.out rfl rfl rfl ?_))
    clear y0
    refine (C0.out x _ R0.out).mono ?_
    rintro e w5 ⟨⟨x1, rfl, k1⟩, hb⟩
    have nHB := Lib.hid (belG HB.out hb HB.out.size)
    have nR0 := Lib.hid ((R0.out.below hb (Nat.le_refl _)).more hb.size)
    have nR1 := Lib.hid ((R1.out.below hb (Nat.le_refl _)).more hb.size)
    have nR2 := Lib.hid ((R2.out.below hb (Nat.le_refl _)).more hb.size)
    have nG3 := Lib.hid (oldG G3.out hb (Nat.le_refl _))
    have nG9 := Lib.hid (oldG G9.out hb (Nat.le_refl _))
    clear hb
    clear HB R0 R1 R2 G3 G9
    have HB := nHB
    have R0 := nR0
    have R1 := nR1
    have R2 := nR2
    have G3 := nG3
    have G9 := nG9
    clear nHB nR0 nR1 nR2 nG3 nG9
    have R10 := Lib.hid k1
    clear k1 C0
    have LB := Lib.hid HB.out.size
    have LTG3 := Lib.hid (show g3 < w5.heap.size from (Array.getElem?_eq_some_iff.1 G3.out).1)
    have LTG9 := Lib.hid (show g9 < w5.heap.size from (Array.getElem?_eq_some_iff.1 G9.out).1)
    obtain ⟨V5, hV5⟩ : ∃ V, V = w5.alloc (.cells (hubC x1 H1) 29) := ⟨_, rfl⟩
    have ha := (Below.refl w5.heap.size w5).alloc (Nat.le_refl _) (.cells (hubC x1 H1) 29)
    have hg := heap_alloc_new w5 (.cells (hubC x1 H1) 29)
    have nHB := Lib.hid (HB.out.alloc HB.out.size (.cells (hubC x1 H1) 29))
    rw [← hV5] at ha hg nHB
    have nR0 := Lib.hid ((R0.out.below ha (Nat.le_refl _)).more ha.size)
    have nR1 := Lib.hid ((R1.out.below ha (Nat.le_refl _)).more ha.size)
    have nR2 := Lib.hid ((R2.out.below ha (Nat.le_refl _)).more ha.size)
    have nR10 := Lib.hid ((R10.out.below ha (Nat.le_refl _)).more ha.size)
    have nG3 := Lib.hid (oldG G3.out ha (Nat.le_refl _))
    have nG9 := Lib.hid (oldG G9.out ha (Nat.le_refl _))
    obtain ⟨g10, hg10⟩ : ∃ g, g = w5.heap.size := ⟨_, rfl⟩
    rw [← hg10] at hg
    have HXG10 := Lib.hid hg10
    have G10 := Lib.hid hg
    have HV := Lib.hid hV5
    clear ha hg hV5 hg10
    clear HB R0 R1 R2 R10 G3 G9
    have HB := nHB
    have R0 := nR0
    have R1 := nR1
    have R2 := nR2
    have R10 := nR10
    have G3 := nG3
    have G9 := nG9
    clear nHB nR0 nR1 nR2 nR10 nG3 nG9
    have LEG10 := Lib.hid (show W.heap.size ≤ g10 from by rw [HXG10.out]; exact LB.out)
    have NEG3G10 := Lib.hid (show g3 ≠ g10 from by have h1 := LTG3.out; rw [HXG10.out]; omega)
    have NEG10G3 := Lib.hid (NEG3G10.out.symm)
    have NEG9G10 := Lib.hid (show g9 ≠ g10 from by have h1 := LTG9.out; rw [HXG10.out]; omega)
    have NEG10G9 := Lib.hid (NEG9G10.out.symm)
    clear LB LTG3 LTG9
    go_upto_region 12 with (refine storeHb _ (.tmp 10) (.tmp 68) _ x1 H1 _ (heap_alloc_new _ _) rfl rfl rfl rfl rfl ?_; rw [setRowG_fold])
    rw [← HV.out]
    (try rw [← HXG10.out])
    clear HV HXG10
    go_upto_region 15 with (first | (refine loadHb _ (.tmp 3) g3 x h G3.out rfl rfl rfl ?_) | (refine loadHb _ (.tmp 9) g9 x h G9.out rfl rfl rfl ?_) | (refine loadHb _ (.tmp 10) g10 x1 H1 G10.out rfl rfl rfl ?_) | (refine storeHb _ (.tmp 9) (.tmp 72) g9 x1 H1 _ G9.out rfl rfl rfl rfl rfl ?_))
    obtain ⟨V6, hV6⟩ : ∃ V, V = V5.setRow g9 (hubC x1 H1) := ⟨_, rfl⟩
    have hO : OnlyH V5 V6 g9 := by rw [hV6]; exact (OnlyH.refl _ _).setRow _
    have nHB := Lib.hid (hO.below HB.out LEG9.out)
    have nR0 := Lib.hid (hO.hubR G9.out R0.out)
    have nR1 := Lib.hid (R1.out.keepN G9.out (noBH _ _) hO.1 (Nat.le_of_eq hO.2.1.symm))
    have nR2 := Lib.hid (R2.out.keepN G9.out (noBH _ _) hO.1 (Nat.le_of_eq hO.2.1.symm))
    have nR10 := Lib.hid (hO.hubR G9.out R10.out)
    have nG3 := Lib.hid (hO.box G3.out NEG3G9.out)
    have nG9 := Lib.hid (show BoxH V6 g9 x1 H1 from by rw [hV6]; exact setRow_heap _ _ _ _ _ _ G9.out)
    have nG10 := Lib.hid (hO.box G10.out NEG10G9.out)
    rw [← hV6]
    clear hO hV6
    clear HB R0 R1 R2 R10 G3 G9 G10
    have HB := nHB
    have R0 := nR0
    have R1 := nR1
    have R2 := nR2
    have R10 := nR10
    have G3 := nG3
    have G9 := nG9
    have G10 := nG10
    clear nHB nR0 nR1 nR2 nR10 nG3 nG9 nG10
    clear G10 LEG10
    go_wp2_with (first | (refine loadHb _ (.tmp 3) g3 x h G3.out rfl rfl rfl ?_) | (refine loadHb _ (.tmp 9) g9 x1 H1 G9.out rfl rfl rfl ?_))
    refine (C1.out x1 _ R10.out R1.out).mono ?_
    rintro e w7 ⟨⟨xa, Aa, ca, rfl, ka, -, -, -⟩, hb⟩
    have nHB := Lib.hid (belG HB.out hb HB.out.size)
    have nR0 := Lib.hid ((R0.out.below hb (Nat.le_refl _)).more hb.size)
    have nR1 := Lib.hid ((R1.out.below hb (Nat.le_refl _)).more hb.size)
    have nR2 := Lib.hid ((R2.out.below hb (Nat.le_refl _)).more hb.size)
    have nR10 := Lib.hid ((R10.out.below hb (Nat.le_refl _)).more hb.size)
    have nG3 := Lib.hid (oldG G3.out hb (Nat.le_refl _))
    have nG9 := Lib.hid (oldG G9.out hb (Nat.le_refl _))
    clear hb
    clear HB R0 R1 R2 R10 G3 G9
    have HB := nHB
    have R0 := nR0
    have R1 := nR1
    have R2 := nR2
    have R10 := nR10
    have G3 := nG3
    have G9 := nG9
    clear nHB nR0 nR1 nR2 nR10 nG3 nG9
    have RA1 := Lib.hid ka
    clear ka
    have LB := Lib.hid HB.out.size
    have LTG3 := Lib.hid (show g3 < w7.heap.size from (Array.getElem?_eq_some_iff.1 G3.out).1)
    have LTG9 := Lib.hid (show g9 < w7.heap.size from (Array.getElem?_eq_some_iff.1 G9.out).1)
    obtain ⟨V7, hV7⟩ : ∃ V, V = w7.alloc (.cells (hubC xa P1) 29) := ⟨_, rfl⟩
    have ha := (Below.refl w7.heap.size w7).alloc (Nat.le_refl _) (.cells (hubC xa P1) 29)
    have hg := heap_alloc_new w7 (.cells (hubC xa P1) 29)
    have nHB := Lib.hid (HB.out.alloc HB.out.size (.cells (hubC xa P1) 29))
    rw [← hV7] at ha hg nHB
    have nR0 := Lib.hid ((R0.out.below ha (Nat.le_refl _)).more ha.size)
    have nR1 := Lib.hid ((R1.out.below ha (Nat.le_refl _)).more ha.size)
    have nR2 := Lib.hid ((R2.out.below ha (Nat.le_refl _)).more ha.size)
    have nR10 := Lib.hid ((R10.out.below ha (Nat.le_refl _)).more ha.size)
    have nRA1 := Lib.hid ((RA1.out.below ha (Nat.le_refl _)).more ha.size)
    have nG3 := Lib.hid (oldG G3.out ha (Nat.le_refl _))
    have nG9 := Lib.hid (oldG G9.out ha (Nat.le_refl _))
    obtain ⟨ga, hga⟩ : ∃ g, g = w7.heap.size := ⟨_, rfl⟩
    rw [← hga] at hg
    have HXGA := Lib.hid hga
    have GA := Lib.hid hg
    have HV := Lib.hid hV7
    clear ha hg hV7 hga
    clear HB R0 R1 R2 R10 RA1 G3 G9
    have HB := nHB
    have R0 := nR0
    have R1 := nR1
    have R2 := nR2
    have R10 := nR10
    have RA1 := nRA1
    have G3 := nG3
    have G9 := nG9
    clear nHB nR0 nR1 nR2 nR10 nRA1 nG3 nG9
    have LEGA := Lib.hid (show W.heap.size ≤ ga from by rw [HXGA.out]; exact LB.out)
    have NEG3GA := Lib.hid (show g3 ≠ ga from by have h1 := LTG3.out; rw [HXGA.out]; omega)
    have NEGAG3 := Lib.hid (NEG3GA.out.symm)
    have NEG9GA := Lib.hid (show g9 ≠ ga from by have h1 := LTG9.out; rw [HXGA.out]; omega)
    have NEGAG9 := Lib.hid (NEG9GA.out.symm)
    clear LB LTG3 LTG9
    go_upto_region 16 with (refine storeHb _ (.tmp 12) (.tmp 78) _ xa P1 _ (heap_alloc_new _ _) rfl rfl rfl rfl rfl ?_; rw [setRowG_fold])
    rw [← HV.out]
    (try rw [← HXGA.out])
    clear HV HXGA
    go_wp2_with (first | (refine loadHb _ (.tmp 3) g3 x h G3.out rfl rfl rfl ?_) | (refine loadHb _ (.tmp 9) g9 x1 H1 G9.out rfl rfl rfl ?_) | (refine loadHb _ (.tmp 12) ga xa P1 GA.out rfl rfl rfl ?_))
    refine (C2.out xa _ RA1.out).mono ?_
    rintro e w8 ⟨⟨xb, rfl, kb⟩, hb⟩
    have nHB := Lib.hid (belG HB.out hb HB.out.size)
    have nR0 := Lib.hid ((R0.out.below hb (Nat.le_refl _)).more hb.size)
    have nR1 := Lib.hid ((R1.out.below hb (Nat.le_refl _)).more hb.size)
    have nR2 := Lib.hid ((R2.out.below hb (Nat.le_refl _)).more hb.size)
    have nR10 := Lib.hid ((R10.out.below hb (Nat.le_refl _)).more hb.size)
    have nRA1 := Lib.hid ((RA1.out.below hb (Nat.le_refl _)).more hb.size)
    have nG3 := Lib.hid (oldG G3.out hb (Nat.le_refl _))
    have nG9 := Lib.hid (oldG G9.out hb (Nat.le_refl _))
    have nGA := Lib.hid (oldG GA.out hb (Nat.le_refl _))
    clear hb
    clear HB R0 R1 R2 R10 RA1 G3 G9 GA
    have HB := nHB
    have R0 := nR0
    have R1 := nR1
    have R2 := nR2
    have R10 := nR10
    have RA1 := nRA1
    have G3 := nG3
    have G9 := nG9
    have GA := nGA
    clear nHB nR0 nR1 nR2 nR10 nRA1 nG3 nG9 nGA
    have RB1 := Lib.hid kb
    clear kb
    have LB := Lib.hid HB.out.size
    have LTG3 := Lib.hid (show g3 < w8.heap.size from (Array.getElem?_eq_some_iff.1 G3.out).1)
    have LTG9 := Lib.hid (show g9 < w8.heap.size from (Array.getElem?_eq_some_iff.1 G9.out).1)
    have LTGA := Lib.hid (show ga < w8.heap.size from (Array.getElem?_eq_some_iff.1 GA.out).1)
    obtain ⟨V8, hV8⟩ : ∃ V, V = w8.alloc (.cells (hubC xb Q1) 29) := ⟨_, rfl⟩
    have ha := (Below.refl w8.heap.size w8).alloc (Nat.le_refl _) (.cells (hubC xb Q1) 29)
    have hg := heap_alloc_new w8 (.cells (hubC xb Q1) 29)
    have nHB := Lib.hid (HB.out.alloc HB.out.size (.cells (hubC xb Q1) 29))
    rw [← hV8] at ha hg nHB
    have nR0 := Lib.hid ((R0.out.below ha (Nat.le_refl _)).more ha.size)
    have nR1 := Lib.hid ((R1.out.below ha (Nat.le_refl _)).more ha.size)
    have nR2 := Lib.hid ((R2.out.below ha (Nat.le_refl _)).more ha.size)
    have nR10 := Lib.hid ((R10.out.below ha (Nat.le_refl _)).more ha.size)
    have nRA1 := Lib.hid ((RA1.out.below ha (Nat.le_refl _)).more ha.size)
    have nRB1 := Lib.hid ((RB1.out.below ha (Nat.le_refl _)).more ha.size)
    have nG3 := Lib.hid (oldG G3.out ha (Nat.le_refl _))
    have nG9 := Lib.hid (oldG G9.out ha (Nat.le_refl _))
    have nGA := Lib.hid (oldG GA.out ha (Nat.le_refl _))
    obtain ⟨gb, hgb⟩ : ∃ g, g = w8.heap.size := ⟨_, rfl⟩
    rw [← hgb] at hg
    have HXGB := Lib.hid hgb
    have GB := Lib.hid hg
    have HV := Lib.hid hV8
    clear ha hg hV8 hgb
    clear HB R0 R1 R2 R10 RA1 RB1 G3 G9 GA
    have HB := nHB
    have R0 := nR0
    have R1 := nR1
    have R2 := nR2
    have R10 := nR10
    have RA1 := nRA1
    have RB1 := nRB1
    have G3 := nG3
    have G9 := nG9
    have GA := nGA
    clear nHB nR0 nR1 nR2 nR10 nRA1 nRB1 nG3 nG9 nGA
    have LEGB := Lib.hid (show W.heap.size ≤ gb from by rw [HXGB.out]; exact LB.out)
    have NEG3GB := Lib.hid (show g3 ≠ gb from by have h1 := LTG3.out; rw [HXGB.out]; omega)
    have NEGBG3 := Lib.hid (NEG3GB.out.symm)
    have NEG9GB := Lib.hid (show g9 ≠ gb from by have h1 := LTG9.out; rw [HXGB.out]; omega)
    have NEGBG9 := Lib.hid (NEG9GB.out.symm)
    have NEGAGB := Lib.hid (show ga ≠ gb from by have h1 := LTGA.out; rw [HXGB.out]; omega)
    have NEGBGA := Lib.hid (NEGAGB.out.symm)
    clear LB LTG3 LTG9 LTGA
    go_upto_region 17 with (refine storeHb _ (.tmp 15) (.tmp 85) _ xb Q1 _ (heap_alloc_new _ _) rfl rfl rfl rfl rfl ?_; rw [setRowG_fold])
    rw [← HV.out]
    (try rw [← HXGB.out])
    clear HV HXGB
    go_wp2_with (first | (refine loadHb _ (.tmp 3) g3 x h G3.out rfl rfl rfl ?_) | (refine loadHb _ (.tmp 9) g9 x1 H1 G9.out rfl rfl rfl ?_) | (refine loadHb _ (.tmp 12) ga xa P1 GA.out rfl rfl rfl ?_) | (refine loadHb _ (.tmp 15) gb xb Q1 GB.out rfl rfl rfl ?_))
    refine (C3.out xb _ RB1.out R2.out).mono ?_
    rintro e w9 ⟨⟨xc, Ac, cc, rfl, kc, -, -, -⟩, hb⟩
    have nHB := Lib.hid (belG HB.out hb HB.out.size)
    have nR0 := Lib.hid ((R0.out.below hb (Nat.le_refl _)).more hb.size)
    have nR1 := Lib.hid ((R1.out.below hb (Nat.le_refl _)).more hb.size)
    have nR2 := Lib.hid ((R2.out.below hb (Nat.le_refl _)).more hb.size)
    have nR10 := Lib.hid ((R10.out.below hb (Nat.le_refl _)).more hb.size)
    have nRA1 := Lib.hid ((RA1.out.below hb (Nat.le_refl _)).more hb.size)
    have nRB1 := Lib.hid ((RB1.out.below hb (Nat.le_refl _)).more hb.size)
    have nG3 := Lib.hid (oldG G3.out hb (Nat.le_refl _))
    have nG9 := Lib.hid (oldG G9.out hb (Nat.le_refl _))
    have nGA := Lib.hid (oldG GA.out hb (Nat.le_refl _))
    have nGB := Lib.hid (oldG GB.out hb (Nat.le_refl _))
    clear hb
    clear HB R0 R1 R2 R10 RA1 RB1 G3 G9 GA GB
    have HB := nHB
    have R0 := nR0
    have R1 := nR1
    have R2 := nR2
    have R10 := nR10
    have RA1 := nRA1
    have RB1 := nRB1
    have G3 := nG3
    have G9 := nG9
    have GA := nGA
    have GB := nGB
    clear nHB nR0 nR1 nR2 nR10 nRA1 nRB1 nG3 nG9 nGA nGB
    have RC1 := Lib.hid kc
    clear kc
    have LB := Lib.hid HB.out.size
    have LTG3 := Lib.hid (show g3 < w9.heap.size from (Array.getElem?_eq_some_iff.1 G3.out).1)
    have LTG9 := Lib.hid (show g9 < w9.heap.size from (Array.getElem?_eq_some_iff.1 G9.out).1)
    have LTGA := Lib.hid (show ga < w9.heap.size from (Array.getElem?_eq_some_iff.1 GA.out).1)
    have LTGB := Lib.hid (show gb < w9.heap.size from (Array.getElem?_eq_some_iff.1 GB.out).1)
    obtain ⟨V9, hV9⟩ : ∃ V, V = w9.alloc (.cells (hubC xc Q1) 29) := ⟨_, rfl⟩
    have ha := (Below.refl w9.heap.size w9).alloc (Nat.le_refl _) (.cells (hubC xc Q1) 29)
    have hg := heap_alloc_new w9 (.cells (hubC xc Q1) 29)
    have nHB := Lib.hid (HB.out.alloc HB.out.size (.cells (hubC xc Q1) 29))
    rw [← hV9] at ha hg nHB
    have nR0 := Lib.hid ((R0.out.below ha (Nat.le_refl _)).more ha.size)
    have nR1 := Lib.hid ((R1.out.below ha (Nat.le_refl _)).more ha.size)
    have nR2 := Lib.hid ((R2.out.below ha (Nat.le_refl _)).more ha.size)
    have nR10 := Lib.hid ((R10.out.below ha (Nat.le_refl _)).more ha.size)
    have nRA1 := Lib.hid ((RA1.out.below ha (Nat.le_refl _)).more ha.size)
    have nRB1 := Lib.hid ((RB1.out.below ha (Nat.le_refl _)).more ha.size)
    have nRC1 := Lib.hid ((RC1.out.below ha (Nat.le_refl _)).more ha.size)
    have nG3 := Lib.hid (oldG G3.out ha (Nat.le_refl _))
    have nG9 := Lib.hid (oldG G9.out ha (Nat.le_refl _))
    have nGA := Lib.hid (oldG GA.out ha (Nat.le_refl _))
    have nGB := Lib.hid (oldG GB.out ha (Nat.le_refl _))
    obtain ⟨gc, hgc⟩ : ∃ g, g = w9.heap.size := ⟨_, rfl⟩
    rw [← hgc] at hg
    have HXGC := Lib.hid hgc
    have GC := Lib.hid hg
    have HV := Lib.hid hV9
    clear ha hg hV9 hgc
    clear HB R0 R1 R2 R10 RA1 RB1 RC1 G3 G9 GA GB
    have HB := nHB
    have R0 := nR0
    have R1 := nR1
    have R2 := nR2
    have R10 := nR10
    have RA1 := nRA1
    have RB1 := nRB1
    have RC1 := nRC1
    have G3 := nG3
    have G9 := nG9
    have GA := nGA
    have GB := nGB
    clear nHB nR0 nR1 nR2 nR10 nRA1 nRB1 nRC1 nG3 nG9 nGA nGB
    have LEGC := Lib.hid (show W.heap.size ≤ gc from by rw [HXGC.out]; exact LB.out)
    have NEG3GC := Lib.hid (show g3 ≠ gc from by have h1 := LTG3.out; rw [HXGC.out]; omega)
    have NEGCG3 := Lib.hid (NEG3GC.out.symm)
    have NEG9GC := Lib.hid (show g9 ≠ gc from by have h1 := LTG9.out; rw [HXGC.out]; omega)
    have NEGCG9 := Lib.hid (NEG9GC.out.symm)
    have NEGAGC := Lib.hid (show ga ≠ gc from by have h1 := LTGA.out; rw [HXGC.out]; omega)
    have NEGCGA := Lib.hid (NEGAGC.out.symm)
    have NEGBGC := Lib.hid (show gb ≠ gc from by have h1 := LTGB.out; rw [HXGC.out]; omega)
    have NEGCGB := Lib.hid (NEGBGC.out.symm)
    clear LB LTG3 LTG9 LTGA LTGB
    go_upto_region 18 with (refine storeHb _ (.tmp 17) (.tmp 92) _ xc Q1 _ (heap_alloc_new _ _) rfl rfl rfl rfl rfl ?_; rw [setRowG_fold])
    rw [← HV.out]
    (try rw [← HXGC.out])
    clear HV HXGC
    go_wp2_with (first | (refine loadHb _ (.tmp 3) g3 x h G3.out rfl rfl rfl ?_) | (refine loadHb _ (.tmp 9) g9 x1 H1 G9.out rfl rfl rfl ?_) | (refine loadHb _ (.tmp 12) ga xa P1 GA.out rfl rfl rfl ?_) | (refine loadHb _ (.tmp 15) gb xb Q1 GB.out rfl rfl rfl ?_) | (refine loadHb _ (.tmp 17) gc xc Q1 GC.out rfl rfl rfl ?_))
    refine (C4.out xb _ RB1.out).mono ?_
    rintro e w10 ⟨⟨xd, rfl, kd⟩, hb⟩
    have nHB := Lib.hid (belG HB.out hb HB.out.size)
    have nR0 := Lib.hid ((R0.out.below hb (Nat.le_refl _)).more hb.size)
    have nR1 := Lib.hid ((R1.out.below hb (Nat.le_refl _)).more hb.size)
    have nR2 := Lib.hid ((R2.out.below hb (Nat.le_refl _)).more hb.size)
    have nR10 := Lib.hid ((R10.out.below hb (Nat.le_refl _)).more hb.size)
    have nRA1 := Lib.hid ((RA1.out.below hb (Nat.le_refl _)).more hb.size)
    have nRB1 := Lib.hid ((RB1.out.below hb (Nat.le_refl _)).more hb.size)
    have nRC1 := Lib.hid ((RC1.out.below hb (Nat.le_refl _)).more hb.size)
    have nG3 := Lib.hid (oldG G3.out hb (Nat.le_refl _))
    have nG9 := Lib.hid (oldG G9.out hb (Nat.le_refl _))
    have nGA := Lib.hid (oldG GA.out hb (Nat.le_refl _))
    have nGB := Lib.hid (oldG GB.out hb (Nat.le_refl _))
    have nGC := Lib.hid (oldG GC.out hb (Nat.le_refl _))
    clear hb
    clear HB R0 R1 R2 R10 RA1 RB1 RC1 G3 G9 GA GB GC
    have HB := nHB
    have R0 := nR0
    have R1 := nR1
    have R2 := nR2
    have R10 := nR10
    have RA1 := nRA1
    have RB1 := nRB1
    have RC1 := nRC1
    have G3 := nG3
    have G9 := nG9
    have GA := nGA
    have GB := nGB
    have GC := nGC
    clear nHB nR0 nR1 nR2 nR10 nRA1 nRB1 nRC1 nG3 nG9 nGA nGB nGC
    have RD1 := Lib.hid kd
    clear kd
    have LB := Lib.hid HB.out.size
    have LTG3 := Lib.hid (show g3 < w10.heap.size from (Array.getElem?_eq_some_iff.1 G3.out).1)
    have LTG9 := Lib.hid (show g9 < w10.heap.size from (Array.getElem?_eq_some_iff.1 G9.out).1)
    have LTGA := Lib.hid (show ga < w10.heap.size from (Array.getElem?_eq_some_iff.1 GA.out).1)
    have LTGB := Lib.hid (show gb < w10.heap.size from (Array.getElem?_eq_some_iff.1 GB.out).1)
    have LTGC := Lib.hid (show gc < w10.heap.size from (Array.getElem?_eq_some_iff.1 GC.out).1)
    obtain ⟨V10, hV10⟩ : ∃ V, V = w10.alloc (.cells (hubC xd S1) 29) := ⟨_, rfl⟩
    have ha := (Below.refl w10.heap.size w10).alloc (Nat.le_refl _) (.cells (hubC xd S1) 29)
    have hg := heap_alloc_new w10 (.cells (hubC xd S1) 29)
    have nHB := Lib.hid (HB.out.alloc HB.out.size (.cells (hubC xd S1) 29))
    rw [← hV10] at ha hg nHB
    have nR0 := Lib.hid ((R0.out.below ha (Nat.le_refl _)).more ha.size)
    have nR1 := Lib.hid ((R1.out.below ha (Nat.le_refl _)).more ha.size)
    have nR2 := Lib.hid ((R2.out.below ha (Nat.le_refl _)).more ha.size)
    have nR10 := Lib.hid ((R10.out.below ha (Nat.le_refl _)).more ha.size)
    have nRA1 := Lib.hid ((RA1.out.below ha (Nat.le_refl _)).more ha.size)
    have nRB1 := Lib.hid ((RB1.out.below ha (Nat.le_refl _)).more ha.size)
    have nRC1 := Lib.hid ((RC1.out.below ha (Nat.le_refl _)).more ha.size)
    have nRD1 := Lib.hid ((RD1.out.below ha (Nat.le_refl _)).more ha.size)
    have nG3 := Lib.hid (oldG G3.out ha (Nat.le_refl _))
    have nG9 := Lib.hid (oldG G9.out ha (Nat.le_refl _))
    have nGA := Lib.hid (oldG GA.out ha (Nat.le_refl _))
    have nGB := Lib.hid (oldG GB.out ha (Nat.le_refl _))
    have nGC := Lib.hid (oldG GC.out ha (Nat.le_refl _))
    obtain ⟨gd, hgd⟩ : ∃ g, g = w10.heap.size := ⟨_, rfl⟩
    rw [← hgd] at hg
    have HXGD := Lib.hid hgd
    have GD := Lib.hid hg
    have HV := Lib.hid hV10
    clear ha hg hV10 hgd
    clear HB R0 R1 R2 R10 RA1 RB1 RC1 RD1 G3 G9 GA GB GC
    have HB := nHB
    have R0 := nR0
    have R1 := nR1
    have R2 := nR2
    have R10 := nR10
    have RA1 := nRA1
    have RB1 := nRB1
    have RC1 := nRC1
    have RD1 := nRD1
    have G3 := nG3
    have G9 := nG9
    have GA := nGA
    have GB := nGB
    have GC := nGC
    clear nHB nR0 nR1 nR2 nR10 nRA1 nRB1 nRC1 nRD1 nG3 nG9 nGA nGB nGC
    have LEGD := Lib.hid (show W.heap.size ≤ gd from by rw [HXGD.out]; exact LB.out)
    have NEG3GD := Lib.hid (show g3 ≠ gd from by have h1 := LTG3.out; rw [HXGD.out]; omega)
    have NEGDG3 := Lib.hid (NEG3GD.out.symm)
    have NEG9GD := Lib.hid (show g9 ≠ gd from by have h1 := LTG9.out; rw [HXGD.out]; omega)
    have NEGDG9 := Lib.hid (NEG9GD.out.symm)
    have NEGAGD := Lib.hid (show ga ≠ gd from by have h1 := LTGA.out; rw [HXGD.out]; omega)
    have NEGDGA := Lib.hid (NEGAGD.out.symm)
    have NEGBGD := Lib.hid (show gb ≠ gd from by have h1 := LTGB.out; rw [HXGD.out]; omega)
    have NEGDGB := Lib.hid (NEGBGD.out.symm)
    have NEGCGD := Lib.hid (show gc ≠ gd from by have h1 := LTGC.out; rw [HXGD.out]; omega)
    have NEGDGC := Lib.hid (NEGCGD.out.symm)
    clear LB LTG3 LTG9 LTGA LTGB LTGC
    go_upto_region 19 with (refine storeHb _ (.tmp 20) (.tmp 99) _ xd S1 _ (heap_alloc_new _ _) rfl rfl rfl rfl rfl ?_; rw [setRowG_fold])
    rw [← HV.out]
    (try rw [← HXGD.out])
    clear HV HXGD
    go_wp2_with (first | (refine loadHb _ (.tmp 3) g3 x h G3.out rfl rfl rfl ?_) | (refine loadHb _ (.tmp 9) g9 x1 H1 G9.out rfl rfl rfl ?_) | (refine loadHb _ (.tmp 12) ga xa P1 GA.out rfl rfl rfl ?_) | (refine loadHb _ (.tmp 15) gb xb Q1 GB.out rfl rfl rfl ?_) | (refine loadHb _ (.tmp 17) gc xc Q1 GC.out rfl rfl rfl ?_) | (refine loadHb _ (.tmp 20) gd xd S1 GD.out rfl rfl rfl ?_))
    refine (C5.out xd _ RD1.out R2.out).mono ?_
    rintro e w11 ⟨⟨xe, Ae, ce, rfl, ke, -, -, me⟩, hb⟩
    have nHB := Lib.hid (belG HB.out hb HB.out.size)
    have nR0 := Lib.hid ((R0.out.below hb (Nat.le_refl _)).more hb.size)
    have nR1 := Lib.hid ((R1.out.below hb (Nat.le_refl _)).more hb.size)
    have nR2 := Lib.hid ((R2.out.below hb (Nat.le_refl _)).more hb.size)
    have nR10 := Lib.hid ((R10.out.below hb (Nat.le_refl _)).more hb.size)
    have nRA1 := Lib.hid ((RA1.out.below hb (Nat.le_refl _)).more hb.size)
    have nRB1 := Lib.hid ((RB1.out.below hb (Nat.le_refl _)).more hb.size)
    have nRC1 := Lib.hid ((RC1.out.below hb (Nat.le_refl _)).more hb.size)
    have nRD1 := Lib.hid ((RD1.out.below hb (Nat.le_refl _)).more hb.size)
    have nG3 := Lib.hid (oldG G3.out hb (Nat.le_refl _))
    have nG9 := Lib.hid (oldG G9.out hb (Nat.le_refl _))
    have nGA := Lib.hid (oldG GA.out hb (Nat.le_refl _))
    have nGB := Lib.hid (oldG GB.out hb (Nat.le_refl _))
    have nGC := Lib.hid (oldG GC.out hb (Nat.le_refl _))
    have nGD := Lib.hid (oldG GD.out hb (Nat.le_refl _))
    clear hb
    clear HB R0 R1 R2 R10 RA1 RB1 RC1 RD1 G3 G9 GA GB GC GD
    have HB := nHB
    have R0 := nR0
    have R1 := nR1
    have R2 := nR2
    have R10 := nR10
    have RA1 := nRA1
    have RB1 := nRB1
    have RC1 := nRC1
    have RD1 := nRD1
    have G3 := nG3
    have G9 := nG9
    have GA := nGA
    have GB := nGB
    have GC := nGC
    have GD := nGD
    clear nHB nR0 nR1 nR2 nR10 nRA1 nRB1 nRC1 nRD1 nG3 nG9 nGA nGB nGC nGD
    have RE1 := Lib.hid ke
    have ME1 := Lib.hid me
    clear ke me
    have LB := Lib.hid HB.out.size
    have LTG3 := Lib.hid (show g3 < w11.heap.size from (Array.getElem?_eq_some_iff.1 G3.out).1)
    have LTG9 := Lib.hid (show g9 < w11.heap.size from (Array.getElem?_eq_some_iff.1 G9.out).1)
    have LTGA := Lib.hid (show ga < w11.heap.size from (Array.getElem?_eq_some_iff.1 GA.out).1)
    have LTGB := Lib.hid (show gb < w11.heap.size from (Array.getElem?_eq_some_iff.1 GB.out).1)
    have LTGC := Lib.hid (show gc < w11.heap.size from (Array.getElem?_eq_some_iff.1 GC.out).1)
    have LTGD := Lib.hid (show gd < w11.heap.size from (Array.getElem?_eq_some_iff.1 GD.out).1)
    obtain ⟨V11, hV11⟩ : ∃ V, V = w11.alloc (.cells (hubC xe H9) 29) := ⟨_, rfl⟩
    have ha := (Below.refl w11.heap.size w11).alloc (Nat.le_refl _) (.cells (hubC xe H9) 29)
    have hg := heap_alloc_new w11 (.cells (hubC xe H9) 29)
    have nHB := Lib.hid (HB.out.alloc HB.out.size (.cells (hubC xe H9) 29))
    rw [← hV11] at ha hg nHB
    have nR0 := Lib.hid ((R0.out.below ha (Nat.le_refl _)).more ha.size)
    have nR1 := Lib.hid ((R1.out.below ha (Nat.le_refl _)).more ha.size)
    have nR2 := Lib.hid ((R2.out.below ha (Nat.le_refl _)).more ha.size)
    have nR10 := Lib.hid ((R10.out.below ha (Nat.le_refl _)).more ha.size)
    have nRA1 := Lib.hid ((RA1.out.below ha (Nat.le_refl _)).more ha.size)
    have nRB1 := Lib.hid ((RB1.out.below ha (Nat.le_refl _)).more ha.size)
    have nRC1 := Lib.hid ((RC1.out.below ha (Nat.le_refl _)).more ha.size)
    have nRD1 := Lib.hid ((RD1.out.below ha (Nat.le_refl _)).more ha.size)
    have nRE1 := Lib.hid ((RE1.out.below ha (Nat.le_refl _)).more ha.size)
    have nME1 := Lib.hid ((ME1.out.below ha (Nat.le_refl _)).more ha.size)
    have nG3 := Lib.hid (oldG G3.out ha (Nat.le_refl _))
    have nG9 := Lib.hid (oldG G9.out ha (Nat.le_refl _))
    have nGA := Lib.hid (oldG GA.out ha (Nat.le_refl _))
    have nGB := Lib.hid (oldG GB.out ha (Nat.le_refl _))
    have nGC := Lib.hid (oldG GC.out ha (Nat.le_refl _))
    have nGD := Lib.hid (oldG GD.out ha (Nat.le_refl _))
    obtain ⟨ge, hge⟩ : ∃ g, g = w11.heap.size := ⟨_, rfl⟩
    rw [← hge] at hg
    have HXGE := Lib.hid hge
    have GE := Lib.hid hg
    have HV := Lib.hid hV11
    clear ha hg hV11 hge
    clear HB R0 R1 R2 R10 RA1 RB1 RC1 RD1 RE1 ME1 G3 G9 GA GB GC GD
    have HB := nHB
    have R0 := nR0
    have R1 := nR1
    have R2 := nR2
    have R10 := nR10
    have RA1 := nRA1
    have RB1 := nRB1
    have RC1 := nRC1
    have RD1 := nRD1
    have RE1 := nRE1
    have ME1 := nME1
    have G3 := nG3
    have G9 := nG9
    have GA := nGA
    have GB := nGB
    have GC := nGC
    have GD := nGD
    clear nHB nR0 nR1 nR2 nR10 nRA1 nRB1 nRC1 nRD1 nRE1 nME1 nG3 nG9 nGA nGB nGC nGD
    have LEGE := Lib.hid (show W.heap.size ≤ ge from by rw [HXGE.out]; exact LB.out)
    have NEG3GE := Lib.hid (show g3 ≠ ge from by have h1 := LTG3.out; rw [HXGE.out]; omega)
    have NEGEG3 := Lib.hid (NEG3GE.out.symm)
    have NEG9GE := Lib.hid (show g9 ≠ ge from by have h1 := LTG9.out; rw [HXGE.out]; omega)
    have NEGEG9 := Lib.hid (NEG9GE.out.symm)
    have NEGAGE := Lib.hid (show ga ≠ ge from by have h1 := LTGA.out; rw [HXGE.out]; omega)
    have NEGEGA := Lib.hid (NEGAGE.out.symm)
    have NEGBGE := Lib.hid (show gb ≠ ge from by have h1 := LTGB.out; rw [HXGE.out]; omega)
    have NEGEGB := Lib.hid (NEGBGE.out.symm)
    have NEGCGE := Lib.hid (show gc ≠ ge from by have h1 := LTGC.out; rw [HXGE.out]; omega)
    have NEGEGC := Lib.hid (NEGCGE.out.symm)
    have NEGDGE := Lib.hid (show gd ≠ ge from by have h1 := LTGD.out; rw [HXGE.out]; omega)
    have NEGEGD := Lib.hid (NEGDGE.out.symm)
    clear LB LTG3 LTG9 LTGA LTGB LTGC LTGD
    go_upto_region 20 with (refine storeHb _ (.tmp 22) (.tmp 106) _ xe H9 _ (heap_alloc_new _ _) rfl rfl rfl rfl rfl ?_; rw [setRowG_fold])
    rw [← HV.out]
    (try rw [← HXGE.out])
    clear HV HXGE
    go_wp2_with (first | (refine loadHb _ (.tmp 3) g3 x h G3.out rfl rfl rfl ?_) | (refine loadHb _ (.tmp 9) g9 x1 H1 G9.out rfl rfl rfl ?_) | (refine loadHb _ (.tmp 12) ga xa P1 GA.out rfl rfl rfl ?_) | (refine loadHb _ (.tmp 15) gb xb Q1 GB.out rfl rfl rfl ?_) | (refine loadHb _ (.tmp 17) gc xc Q1 GC.out rfl rfl rfl ?_) | (refine loadHb _ (.tmp 20) gd xd S1 GD.out rfl rfl rfl ?_) | (refine loadHb _ (.tmp 22) ge xe H9 GE.out rfl rfl rfl ?_))
    refine (C6.out _ R2.out).mono ?_
    rintro e w12 ⟨⟨Af, cf, Ag, cg, rfl, -, -, -, -, -, mg⟩, hb⟩
    have nHB := Lib.hid (belG HB.out hb HB.out.size)
    have nR0 := Lib.hid ((R0.out.below hb (Nat.le_refl _)).more hb.size)
    have nR1 := Lib.hid ((R1.out.below hb (Nat.le_refl _)).more hb.size)
    have nR2 := Lib.hid ((R2.out.below hb (Nat.le_refl _)).more hb.size)
    have nR10 := Lib.hid ((R10.out.below hb (Nat.le_refl _)).more hb.size)
    have nRA1 := Lib.hid ((RA1.out.below hb (Nat.le_refl _)).more hb.size)
    have nRB1 := Lib.hid ((RB1.out.below hb (Nat.le_refl _)).more hb.size)
    have nRC1 := Lib.hid ((RC1.out.below hb (Nat.le_refl _)).more hb.size)
    have nRD1 := Lib.hid ((RD1.out.below hb (Nat.le_refl _)).more hb.size)
    have nRE1 := Lib.hid ((RE1.out.below hb (Nat.le_refl _)).more hb.size)
    have nME1 := Lib.hid ((ME1.out.below hb (Nat.le_refl _)).more hb.size)
    have nG3 := Lib.hid (oldG G3.out hb (Nat.le_refl _))
    have nG9 := Lib.hid (oldG G9.out hb (Nat.le_refl _))
    have nGA := Lib.hid (oldG GA.out hb (Nat.le_refl _))
    have nGB := Lib.hid (oldG GB.out hb (Nat.le_refl _))
    have nGC := Lib.hid (oldG GC.out hb (Nat.le_refl _))
    have nGD := Lib.hid (oldG GD.out hb (Nat.le_refl _))
    have nGE := Lib.hid (oldG GE.out hb (Nat.le_refl _))
    clear hb
    clear HB R0 R1 R2 R10 RA1 RB1 RC1 RD1 RE1 ME1 G3 G9 GA GB GC GD GE
    have HB := nHB
    have R0 := nR0
    have R1 := nR1
    have R2 := nR2
    have R10 := nR10
    have RA1 := nRA1
    have RB1 := nRB1
    have RC1 := nRC1
    have RD1 := nRD1
    have RE1 := nRE1
    have ME1 := nME1
    have G3 := nG3
    have G9 := nG9
    have GA := nGA
    have GB := nGB
    have GC := nGC
    have GD := nGD
    have GE := nGE
    clear nHB nR0 nR1 nR2 nR10 nRA1 nRB1 nRC1 nRD1 nRE1 nME1 nG3 nG9 nGA nGB nGC nGD nGE
    have MG1 := Lib.hid mg
    clear mg
    obtain ⟨V12, hV12⟩ : ∃ V, V = w12.alloc (.cells #[.slice Af fd9.buf.length cf, .int .i64 fd9.skip, .int .i64 fd9.bad] 25) := ⟨_, rfl⟩
    have ha := (Below.refl w12.heap.size w12).alloc (Nat.le_refl _) (.cells #[.slice Af fd9.buf.length cf, .int .i64 fd9.skip, .int .i64 fd9.bad] 25)
    have hg := heap_alloc_new w12 (.cells #[.slice Af fd9.buf.length cf, .int .i64 fd9.skip, .int .i64 fd9.bad] 25)
    have nHB := Lib.hid (HB.out.alloc HB.out.size (.cells #[.slice Af fd9.buf.length cf, .int .i64 fd9.skip, .int .i64 fd9.bad] 25))
    rw [← hV12] at ha hg nHB
    have nR0 := Lib.hid ((R0.out.below ha (Nat.le_refl _)).more ha.size)
    have nR1 := Lib.hid ((R1.out.below ha (Nat.le_refl _)).more ha.size)
    have nR2 := Lib.hid ((R2.out.below ha (Nat.le_refl _)).more ha.size)
    have nR10 := Lib.hid ((R10.out.below ha (Nat.le_refl _)).more ha.size)
    have nRA1 := Lib.hid ((RA1.out.below ha (Nat.le_refl _)).more ha.size)
    have nRB1 := Lib.hid ((RB1.out.below ha (Nat.le_refl _)).more ha.size)
    have nRC1 := Lib.hid ((RC1.out.below ha (Nat.le_refl _)).more ha.size)
    have nRD1 := Lib.hid ((RD1.out.below ha (Nat.le_refl _)).more ha.size)
    have nRE1 := Lib.hid ((RE1.out.below ha (Nat.le_refl _)).more ha.size)
    have nME1 := Lib.hid ((ME1.out.below ha (Nat.le_refl _)).more ha.size)
    have nMG1 := Lib.hid ((MG1.out.below ha (Nat.le_refl _)).more ha.size)
    have nG3 := Lib.hid (oldG G3.out ha (Nat.le_refl _))
    have nG9 := Lib.hid (oldG G9.out ha (Nat.le_refl _))
    have nGA := Lib.hid (oldG GA.out ha (Nat.le_refl _))
    have nGB := Lib.hid (oldG GB.out ha (Nat.le_refl _))
    have nGC := Lib.hid (oldG GC.out ha (Nat.le_refl _))
    have nGD := Lib.hid (oldG GD.out ha (Nat.le_refl _))
    have nGE := Lib.hid (oldG GE.out ha (Nat.le_refl _))
    obtain ⟨g25, hg25⟩ : ∃ g, g = w12.heap.size := ⟨_, rfl⟩
    rw [← hg25] at hg
    have HXG25 := Lib.hid hg25
    have G25 := Lib.hid hg
    have HV := Lib.hid hV12
    clear ha hg hV12 hg25
    clear HB R0 R1 R2 R10 RA1 RB1 RC1 RD1 RE1 ME1 MG1 G3 G9 GA GB GC GD GE
    have HB := nHB
    have R0 := nR0
    have R1 := nR1
    have R2 := nR2
    have R10 := nR10
    have RA1 := nRA1
    have RB1 := nRB1
    have RC1 := nRC1
    have RD1 := nRD1
    have RE1 := nRE1
    have ME1 := nME1
    have MG1 := nMG1
    have G3 := nG3
    have G9 := nG9
    have GA := nGA
    have GB := nGB
    have GC := nGC
    have GD := nGD
    have GE := nGE
    clear nHB nR0 nR1 nR2 nR10 nRA1 nRB1 nRC1 nRD1 nRE1 nME1 nMG1 nG3 nG9 nGA nGB nGC nGD nGE
    go_upto_region 21 with (fail)
    rw [← HV.out]
    (try rw [← HXG25.out])
    clear HV HXG25
    clear C1 C2 C3 C4 C5 C6 HA HK HLA HLB HRT HUQ HN HM HL CF CR R0 R1 R2 RA1 RB1 RC1 RE1 G3 GA GC GE G25 LEG3 LEG9 LEGA LEGB LEGC LEGD LEGE NEG3G9 NEG3GA NEG3GB NEG3GC NEG3GD NEG3GE NEG9G3 NEG9GA NEG9GB NEG9GC NEG9GD NEG9GE NEGAG3 NEGAG9 NEGAGB NEGAGC NEGAGD NEGAGE NEGBG3 NEGBG9 NEGBGA NEGBGC NEGBGD NEGBGE NEGCG3 NEGCG9 NEGCGA NEGCGB NEGCGD NEGCGE NEGDG3 NEGDG9 NEGDGA NEGDGB NEGDGC NEGDGE NEGEG3 NEGEG9 NEGEGA NEGEGB NEGEGC NEGEGD
    have hls : IntKind.i64.wrap (Hb.life H1 q + 1) = S1.life q := (IntWalk.i64_left _).trans HLS.out
    have BB0 := Lib.hid ((Below.refl V12.heap.size V12).drew)
    have F0 := Lib.hid (fun w (h : Below V12.heap.size V12 w) => belG HB.out h HB.out.size)
    have FME1 := Lib.hid (fun w (h : Below V12.heap.size V12 w) => (ME1.out.below h (Nat.le_refl _)).more h.size)
    have FMG1 := Lib.hid (fun w (h : Below V12.heap.size V12 w) => (MG1.out.below h (Nat.le_refl _)).more h.size)
    have FRD1 := Lib.hid (fun w (h : Below V12.heap.size V12 w) => (RD1.out.below h (Nat.le_refl _)).more h.size)
    go_wp2_with (first | (refine loadHb _ (.tmp 9) g9 x1 H1 G9.out rfl rfl rfl ?_) | (refine loadHb _ (.tmp 15) gb xb Q1 GB.out rfl rfl rfl ?_) | (refine loadHb _ (.tmp 20) gd xd S1 GD.out rfl rfl rfl ?_))
    have KEEP := Lib.hid (fun w' (hW : Below V12.heap.size V12 w') => (show Below V12.heap.size V12 w' ∧ w'.cell? ⟨gd, 16 + q, none⟩ = some (.int .i64 (S1.life q)) ∧ w'.cell? ⟨g9, 16 + q, none⟩ = some (.int .i64 (Hb.life H1 q)) ∧ w'.cell? ⟨gd, q, none⟩ = some (.bool true) ∧ w'.cell? ⟨gb, q, none⟩ = some (.bool false) ∧ w'.cell? ⟨gd, 4 + q * 3, none⟩ = some (slH xd S1 q) ∧ w'.cell? ⟨gd, 4 + q * 3 + 1, none⟩ = some (.int .i64 (S1.fd q).skip) ∧ w'.cell? ⟨gd, 4 + q * 3 + 2, none⟩ = some (.int .i64 (S1.fd q).bad) from ⟨hW, BoxH.cell (BoxH.old GD.out hW (Nat.le_refl _)) (hubC_life xd S1 hq4), BoxH.cell (BoxH.old G9.out hW (Nat.le_refl _)) (hubC_life x1 H1 hq4), (BoxH.cell (BoxH.old GD.out hW (Nat.le_refl _)) (hubC_up xd S1 hq4)).trans (by rw [HSU.out]), (BoxH.cell (BoxH.old GB.out hW (Nat.le_refl _)) (hubC_up xb Q1 hq4)).trans (by rw [HQU.out]), BoxH.cell (BoxH.old GD.out hW (Nat.le_refl _)) (hubC_buf xd S1 hq4), BoxH.cell (BoxH.old GD.out hW (Nat.le_refl _)) (hubC_skip xd S1 hq4), BoxH.cell (BoxH.old GD.out hW (Nat.le_refl _)) (hubC_bad xd S1 hq4)⟩))
    refine wp_region_noPanic ?_
    refine wp_region_held_drew (S := fun w' => Below V12.heap.size V12 w' ∧ w'.cell? ⟨gd, 16 + q, none⟩ = some (.int .i64 (S1.life q)) ∧ w'.cell? ⟨g9, 16 + q, none⟩ = some (.int .i64 (Hb.life H1 q)) ∧ w'.cell? ⟨gd, q, none⟩ = some (.bool true) ∧ w'.cell? ⟨gb, q, none⟩ = some (.bool false) ∧ w'.cell? ⟨gd, 4 + q * 3, none⟩ = some (slH xd S1 q) ∧ w'.cell? ⟨gd, 4 + q * 3 + 1, none⟩ = some (.int .i64 (S1.fd q).skip) ∧ w'.cell? ⟨gd, 4 + q * 3 + 2, none⟩ = some (.int .i64 (S1.fd q).bad)) (by kernel_rfl) (KEEP.out _ BB0.out) (fun hHeld => ?_)
    (refine wpAnyH_take (i := 0) (oi := ?_) (v := ?_) ?_ (by kernel_rfl) (by decide +kernel) (by decide +kernel) (fun _ _ _ h => h) ?_ (by assumption) ?_; rotate_left 2; (focus (simp only [List.getElem?_toArray] <;> rfl)); (focus (refine Or.inl ⟨by rfl, ?_⟩; intro w hSw; (try dsimp only at hSw); go_simp <;> with_reducible rfl)); (try simp only [Act.put, List.setIfInBounds_toArray, List.set_cons_zero, List.set_cons_succ]))
    (refine wpAnyH_take (i := 1) (oi := ?_) (v := ?_) ?_ (by kernel_rfl) (by decide +kernel) (by decide +kernel) (fun _ _ _ h => h) ?_ (by assumption) ?_; rotate_left 2; (focus (simp only [List.getElem?_toArray] <;> rfl)); (focus (refine Or.inl ⟨by rfl, ?_⟩; intro w hSw; (try dsimp only at hSw); go_simp <;> with_reducible rfl)); (try simp only [Act.put, List.setIfInBounds_toArray, List.set_cons_zero, List.set_cons_succ]))
    (refine wpAnyH_take (i := 2) (oi := ?_) (v := ?_) ?_ (by kernel_rfl) (by decide +kernel) (by decide +kernel) (fun _ _ _ h => h) ?_ (by assumption) ?_; rotate_left 2; (focus (simp only [List.getElem?_toArray] <;> rfl)); (focus (refine Or.inl ⟨by rfl, ?_⟩; intro w hSw; (try dsimp only at hSw); go_simp <;> with_reducible rfl)); (try simp only [Act.put, List.setIfInBounds_toArray, List.set_cons_zero, List.set_cons_succ]))
    (refine wpAnyH_take (i := 3) (oi := ?_) (v := ?_) ?_ (by kernel_rfl) (by decide +kernel) (by decide +kernel) (fun _ _ _ h => h) ?_ (by assumption) ?_; rotate_left 2; (focus (simp only [List.getElem?_toArray] <;> rfl)); (focus (refine Or.inl ⟨by rfl, ?_⟩; intro w hSw; (try dsimp only at hSw); go_simp <;> with_reducible rfl)); (try simp only [Act.put, List.setIfInBounds_toArray, List.set_cons_zero, List.set_cons_succ]))
    (refine wpAnyH_take (i := 4) (oi := ?_) (v := ?_) ?_ (by kernel_rfl) (by decide +kernel) (by decide +kernel) (fun _ _ _ h => h) ?_ (by assumption) ?_; rotate_left 2; (focus (simp only [List.getElem?_toArray] <;> rfl)); (focus (refine Or.inl ⟨by rfl, ?_⟩; intro w hSw; (try dsimp only at hSw); go_simp <;> with_reducible rfl)); (try simp only [Act.put, List.setIfInBounds_toArray, List.set_cons_zero, List.set_cons_succ]))
    (refine wpAnyH_take (i := 5) (oi := ?_) (v := ?_) ?_ (by kernel_rfl) (by decide +kernel) (by decide +kernel) (fun _ _ _ h => h) ?_ (by assumption) ?_; rotate_left 2; (focus (simp only [List.getElem?_toArray] <;> rfl)); (focus (refine Or.inl ⟨by rfl, ?_⟩; intro w hSw; (try dsimp only at hSw); go_simp <;> with_reducible rfl)); (try simp only [Act.put, List.setIfInBounds_toArray, List.set_cons_zero, List.set_cons_succ]))
    (refine wpAnyH_take (i := 6) (oi := ?_) (v := ?_) ?_ (by kernel_rfl) (by decide +kernel) (by decide +kernel) (fun _ _ _ h => h) ?_ (by assumption) ?_; rotate_left 2; (focus (simp only [List.getElem?_toArray] <;> rfl)); (focus (refine Or.inl ⟨by rfl, ?_⟩; intro w hSw; (try dsimp only at hSw); go_simp <;> with_reducible rfl)); (try simp only [Act.put, List.setIfInBounds_toArray, List.set_cons_zero, List.set_cons_succ]))
    (refine wpAnyH_take (i := 7) (oi := ?_) (v := ?_) ?_ (by kernel_rfl) (by decide +kernel) (by decide +kernel) (fun _ _ _ h => h) ?_ (by assumption) ?_; rotate_left 2; (focus (simp only [List.getElem?_toArray] <;> rfl)); (focus (refine Or.inl ⟨by rfl, ?_⟩; intro w hSw; (try dsimp only at hSw); go_simp <;> with_reducible rfl)); (try simp only [Act.put, List.setIfInBounds_toArray, List.set_cons_zero, List.set_cons_succ]))
    (refine wpAnyH_take (i := 8) (oi := ?_) (v := ?_) ?_ (by kernel_rfl) (by decide +kernel) (by decide +kernel) (fun _ _ _ h => h) ?_ (by assumption) ?_; rotate_left 2; (focus (simp only [List.getElem?_toArray] <;> rfl)); (focus (refine Or.inl ⟨by rfl, ?_⟩; intro w hSw; (try dsimp only at hSw); go_simp <;> with_reducible rfl)); (try simp only [Act.put, List.setIfInBounds_toArray, List.set_cons_zero, List.set_cons_succ]))
    (refine wpAnyH_take (i := 9) (oi := ?_) (v := ?_) ?_ (by kernel_rfl) (by decide +kernel) (by decide +kernel) (fun _ _ _ h => h) ?_ (by assumption) ?_; rotate_left 2; (focus (simp only [List.getElem?_toArray] <;> rfl)); (focus (refine Or.inl ⟨by rfl, ?_⟩; intro w hSw; (try dsimp only at hSw); go_simp <;> with_reducible rfl)); (try simp only [Act.put, List.setIfInBounds_toArray, List.set_cons_zero, List.set_cons_succ]))
    (refine wpAnyH_take (i := 10) (oi := ?_) (v := ?_) ?_ (by kernel_rfl) (by decide +kernel) (by decide +kernel) (fun _ _ _ h => h) ?_ (by assumption) ?_; rotate_left 2; (focus (simp only [List.getElem?_toArray] <;> rfl)); (focus (refine Or.inl ⟨by rfl, ?_⟩; intro w hSw; (try dsimp only at hSw); go_simp <;> with_reducible rfl)); (try simp only [Act.put, List.setIfInBounds_toArray, List.set_cons_zero, List.set_cons_succ]))
    (refine wpAnyH_take (i := 11) (oi := ?_) (v := ?_) ?_ (by kernel_rfl) (by decide +kernel) (by decide +kernel) (fun _ _ _ h => h) ?_ (by assumption) ?_; rotate_left 2; (focus (simp only [List.getElem?_toArray] <;> rfl)); (focus (refine Or.inl ⟨by rfl, ?_⟩; intro w hSw; (try dsimp only at hSw); go_simp <;> with_reducible rfl)); (try simp only [Act.put, List.setIfInBounds_toArray, List.set_cons_zero, List.set_cons_succ]))
    (refine wpAnyH_take (i := 12) (oi := ?_) (v := ?_) ?_ (by kernel_rfl) (by decide +kernel) (by decide +kernel) (fun _ _ _ h => h) ?_ (by assumption) ?_; rotate_left 2; (focus (simp only [List.getElem?_toArray] <;> rfl)); (focus (refine Or.inl ⟨by rfl, ?_⟩; intro w hSw; (try dsimp only at hSw); go_simp <;> with_reducible rfl)); (try simp only [Act.put, List.setIfInBounds_toArray, List.set_cons_zero, List.set_cons_succ]))
    (refine wpAnyH_take (i := 13) (oi := ?_) (v := ?_) ?_ (by kernel_rfl) (by decide +kernel) (by decide +kernel) (fun _ _ _ h => h) ?_ (by assumption) ?_; rotate_left 2; (focus (simp only [List.getElem?_toArray] <;> rfl)); (focus (refine Or.inl ⟨by rfl, ?_⟩; intro w hSw; (try dsimp only at hSw); go_simp <;> with_reducible rfl)); (try simp only [Act.put, List.setIfInBounds_toArray, List.set_cons_zero, List.set_cons_succ]))
    (refine wpAnyH_take (i := 14) (oi := ?_) (v := ?_) ?_ (by kernel_rfl) (by decide +kernel) (by decide +kernel) (fun _ _ _ h => h) ?_ (by assumption) ?_; rotate_left 2; (focus (simp only [List.getElem?_toArray] <;> rfl)); (focus (refine Or.inl ⟨by rfl, ?_⟩; intro w hSw; (try dsimp only at hSw); go_simp <;> with_reducible rfl)); (try simp only [Act.put, List.setIfInBounds_toArray, List.set_cons_zero, List.set_cons_succ]))
    (refine wpAnyH_take (i := 15) (oi := ?_) (v := ?_) ?_ (by kernel_rfl) (by decide +kernel) (by decide +kernel) (fun _ _ _ h => h) ?_ (by assumption) ?_; rotate_left 2; (focus (simp only [List.getElem?_toArray] <;> rfl)); (focus (refine Or.inl ⟨by rfl, ?_⟩; intro w hSw; (try dsimp only at hSw); go_simp <;> with_reducible rfl)); (try simp only [Act.put, List.setIfInBounds_toArray, List.set_cons_zero, List.set_cons_succ]))
    (refine wpAnyH_take (i := 16) (oi := ?_) (v := ?_) ?_ (by kernel_rfl) (by decide +kernel) (by decide +kernel) (fun _ _ _ h => h) ?_ (by assumption) ?_; rotate_left 2; (focus (simp only [List.getElem?_toArray] <;> rfl)); (focus (refine Or.inl ⟨by rfl, ?_⟩; intro w hSw; (try dsimp only at hSw); go_simp <;> with_reducible rfl)); (try simp only [Act.put, List.setIfInBounds_toArray, List.set_cons_zero, List.set_cons_succ]))
    (refine wpAnyH_take (i := 17) (oi := ?_) (v := ?_) ?_ (by kernel_rfl) (by decide +kernel) (by decide +kernel) (fun _ _ _ h => h) ?_ (by assumption) ?_; rotate_left 2; (focus (simp only [List.getElem?_toArray] <;> rfl)); (focus (refine Or.inl ⟨by rfl, ?_⟩; intro w hSw; (try dsimp only at hSw); go_simp <;> with_reducible rfl)); (try simp only [Act.put, List.setIfInBounds_toArray, List.set_cons_zero, List.set_cons_succ]))
    (refine wpAnyH_take (i := 18) (oi := ?_) (v := ?_) ?_ (by kernel_rfl) (by decide +kernel) (by decide +kernel) (fun _ _ _ h => h) ?_ (by assumption) ?_; rotate_left 2; (focus (simp only [List.getElem?_toArray] <;> rfl)); (focus (refine Or.inl ⟨by rfl, ?_⟩; intro w hSw; (try dsimp only at hSw); go_simp <;> with_reducible rfl)); (try simp only [Act.put, List.setIfInBounds_toArray, List.set_cons_zero, List.set_cons_succ]))
    (refine wpAnyH_take (i := 19) (oi := ?_) (v := ?_) ?_ (by kernel_rfl) (by decide +kernel) (by decide +kernel) (fun _ _ _ h => h) ?_ (by assumption) ?_; rotate_left 2; (focus (simp only [List.getElem?_toArray] <;> rfl)); (focus (refine Or.inl ⟨by rfl, ?_⟩; intro w hSw; (try dsimp only at hSw); go_simp <;> with_reducible rfl)); (try simp only [Act.put, List.setIfInBounds_toArray, List.set_cons_zero, List.set_cons_succ]))
    (refine wpAnyH_take (i := 20) (oi := ?_) (v := ?_) ?_ (by kernel_rfl) (by decide +kernel) (by decide +kernel) (fun _ _ _ h => h) ?_ (by assumption) ?_; rotate_left 2; (focus (simp only [List.getElem?_toArray] <;> rfl)); (focus (refine Or.inl ⟨by rfl, ?_⟩; intro w hSw; (try dsimp only at hSw); go_simp <;> with_reducible rfl)); (try simp only [Act.put, List.setIfInBounds_toArray, List.set_cons_zero, List.set_cons_succ]))
    (refine wpAnyH_take (i := 21) (oi := ?_) (v := ?_) ?_ (by kernel_rfl) (by decide +kernel) (by decide +kernel) (fun _ _ _ h => h) ?_ (by assumption) ?_; rotate_left 2; (focus (simp only [List.getElem?_toArray] <;> rfl)); (focus (refine Or.inl ⟨by rfl, ?_⟩; intro w hSw; (try dsimp only at hSw); go_simp <;> with_reducible rfl)); (try simp only [Act.put, List.setIfInBounds_toArray, List.set_cons_zero, List.set_cons_succ]))
    (refine wpAnyH_take (i := 22) (oi := ?_) (v := ?_) ?_ (by kernel_rfl) (by decide +kernel) (by decide +kernel) (fun _ _ _ h => h) ?_ (by assumption) ?_; rotate_left 2; (focus (simp only [List.getElem?_toArray] <;> rfl)); (focus (refine Or.inl ⟨by rfl, ?_⟩; intro w hSw; (try dsimp only at hSw); go_simp <;> with_reducible rfl)); (try simp only [Act.put, List.setIfInBounds_toArray, List.set_cons_zero, List.set_cons_succ]))
    (refine wpAnyH_take (i := 23) (oi := ?_) (v := ?_) ?_ (by kernel_rfl) (by decide +kernel) (by decide +kernel) (fun _ _ _ h => h) ?_ (by assumption) ?_; rotate_left 2; (focus (simp only [List.getElem?_toArray] <;> rfl)); (focus (refine Or.inl ⟨by rfl, ?_⟩; intro w hSw; (try dsimp only at hSw); go_simp <;> with_reducible rfl)); (try simp only [Act.put, List.setIfInBounds_toArray, List.set_cons_zero, List.set_cons_succ]))
    (refine wpAnyH_take (i := 24) (oi := ?_) (v := ?_) ?_ (by kernel_rfl) (by decide +kernel) (by decide +kernel) (fun _ _ _ h => h) ?_ (by assumption) ?_; rotate_left 2; (focus (simp only [List.getElem?_toArray] <;> rfl)); (focus (refine Or.inl ⟨by rfl, ?_⟩; intro w hSw; (try dsimp only at hSw); go_simp <;> with_reducible rfl)); (try simp only [Act.put, List.setIfInBounds_toArray, List.set_cons_zero, List.set_cons_succ]))
    (refine wpAnyH_take (i := 25) (oi := ?_) (v := ?_) ?_ (by kernel_rfl) (by decide +kernel) (by decide +kernel) (fun _ _ _ h => h) ?_ (by assumption) ?_; rotate_left 2; (focus (simp only [List.getElem?_toArray] <;> rfl)); (focus (refine Or.inl ⟨by rfl, ?_⟩; intro w hSw; (try dsimp only at hSw); go_simp <;> with_reducible rfl)); (try simp only [Act.put, List.setIfInBounds_toArray, List.set_cons_zero, List.set_cons_succ]))
    (refine wpAnyH_take (i := 26) (oi := ?_) (v := ?_) ?_ (by kernel_rfl) (by decide +kernel) (by decide +kernel) (fun _ _ _ h => h) ?_ (by assumption) ?_; rotate_left 2; (focus (simp only [List.getElem?_toArray] <;> rfl)); (focus (refine Or.inl ⟨by rfl, ?_⟩; intro w hSw; (try dsimp only at hSw); go_simp <;> with_reducible rfl)); (try simp only [Act.put, List.setIfInBounds_toArray, List.set_cons_zero, List.set_cons_succ]))
    (refine wpAnyH_take (i := 27) (oi := ?_) (v := ?_) ?_ (by kernel_rfl) (by decide +kernel) (by decide +kernel) (fun _ _ _ h => h) ?_ (by assumption) ?_; rotate_left 2; (focus (simp only [List.getElem?_toArray] <;> rfl)); (focus (refine Or.inl ⟨by rfl, ?_⟩; intro w hSw; (try dsimp only at hSw); go_simp <;> with_reducible rfl)); (try simp only [Act.put, List.setIfInBounds_toArray, List.set_cons_zero, List.set_cons_succ]))
    (refine wpAnyH_take (i := 28) (oi := ?_) (v := ?_) ?_ (by kernel_rfl) (by decide +kernel) (by decide +kernel) (fun _ _ _ h => h) ?_ (by assumption) ?_; rotate_left 2; (focus (simp only [List.getElem?_toArray] <;> rfl)); (focus (refine Or.inl ⟨by rfl, ?_⟩; intro w hSw; (try dsimp only at hSw); go_simp <;> with_reducible rfl)); (try simp only [Act.put, List.setIfInBounds_toArray, List.set_cons_zero, List.set_cons_succ]))
    refine wpAnyH_ready (rs := [29]) (by decide +kernel) (by simp) ?_
    refine AllReadyH.cons rfl (fun K hK => ?_) AllReadyH.nil
    go_simp
    go_at_call 24
    refine (CM.out Ae Ag ce cg _ (FME1.out _ BB0.out) (FMG1.out _ BB0.out)).mono ?_
    rintro e wz0 ⟨rfl, hb⟩
    have BB1 := Lib.hid (belG BB0.out hb BB0.out.size)
    clear hb
    refine hK.out _ _ (KEEP.out _ BB1.out) (fun hHeld => ?_)
    clear hK K
    (try simp only [Act.put, List.setIfInBounds_toArray, List.set_cons_zero, List.set_cons_succ])
    (refine wpAnyH_take (i := 30) (oi := ?_) (v := ?_) ?_ (by kernel_rfl) (by decide +kernel) (by decide +kernel) (fun _ _ _ h => h) ?_ (by assumption) ?_; rotate_left 2; (focus (simp only [List.getElem?_toArray] <;> rfl)); (focus (refine Or.inl ⟨by rfl, ?_⟩; intro w hSw; (try dsimp only at hSw); go_simp <;> with_reducible rfl)); (try simp only [Act.put, List.setIfInBounds_toArray, List.set_cons_zero, List.set_cons_succ]))
    (refine wpAnyH_take (i := 31) (oi := ?_) (v := ?_) ?_ (by kernel_rfl) (by decide +kernel) (by decide +kernel) (fun _ _ _ h => h) ?_ (by assumption) ?_; rotate_left 2; (focus (simp only [List.getElem?_toArray] <;> rfl)); (focus (refine Or.inl ⟨by rfl, ?_⟩; intro w hSw; (try dsimp only at hSw); go_simp <;> with_reducible rfl)); (try simp only [Act.put, List.setIfInBounds_toArray, List.set_cons_zero, List.set_cons_succ]))
    (refine wpAnyH_take (i := 32) (oi := ?_) (v := ?_) ?_ (by kernel_rfl) (by decide +kernel) (by decide +kernel) (fun _ _ _ h => h) ?_ (by assumption) ?_; rotate_left 2; (focus (simp only [List.getElem?_toArray] <;> rfl)); (focus (refine Or.inl ⟨by rfl, ?_⟩; intro w hSw; (try dsimp only at hSw); go_simp <;> with_reducible rfl)); (try simp only [Act.put, List.setIfInBounds_toArray, List.set_cons_zero, List.set_cons_succ]))
    (refine wpAnyH_take (i := 33) (oi := ?_) (v := ?_) ?_ (by kernel_rfl) (by decide +kernel) (by decide +kernel) (fun _ _ _ h => h) ?_ (by assumption) ?_; rotate_left 2; (focus (simp only [List.getElem?_toArray] <;> rfl)); (focus (refine Or.inl ⟨by rfl, ?_⟩; intro w hSw; (try dsimp only at hSw); go_simp <;> with_reducible rfl)); (try simp only [Act.put, List.setIfInBounds_toArray, List.set_cons_zero, List.set_cons_succ]))
    (refine wpAnyH_take (i := 34) (oi := ?_) (v := ?_) ?_ (by kernel_rfl) (by decide +kernel) (by decide +kernel) (fun _ _ _ h => h) ?_ (by assumption) ?_; rotate_left 2; (focus (simp only [List.getElem?_toArray] <;> rfl)); (focus (refine Or.inl ⟨by rfl, ?_⟩; intro w hSw; (try dsimp only at hSw); go_simp <;> with_reducible rfl)); (try simp only [Act.put, List.setIfInBounds_toArray, List.set_cons_zero, List.set_cons_succ]))
    (refine wpAnyH_take (i := 35) (oi := ?_) (v := ?_) ?_ (by kernel_rfl) (by decide +kernel) (by decide +kernel) (fun _ _ _ h => h) ?_ (by assumption) ?_; rotate_left 2; (focus (simp only [List.getElem?_toArray] <;> rfl)); (focus (refine Or.inl ⟨by rfl, ?_⟩; intro w hSw; (try dsimp only at hSw); go_simp <;> with_reducible rfl)); (try simp only [Act.put, List.setIfInBounds_toArray, List.set_cons_zero, List.set_cons_succ]))
    (refine wpAnyH_take (i := 36) (oi := ?_) (v := ?_) ?_ (by kernel_rfl) (by decide +kernel) (by decide +kernel) (fun _ _ _ h => h) ?_ (by assumption) ?_; rotate_left 2; (focus (simp only [List.getElem?_toArray] <;> rfl)); (focus (refine Or.inl ⟨by rfl, ?_⟩; intro w hSw; (try dsimp only at hSw); go_simp <;> with_reducible rfl)); (try simp only [Act.put, List.setIfInBounds_toArray, List.set_cons_zero, List.set_cons_succ]))
    (refine wpAnyH_take (i := 37) (oi := ?_) (v := ?_) ?_ (by kernel_rfl) (by decide +kernel) (by decide +kernel) (fun _ _ _ h => h) ?_ (by assumption) ?_; rotate_left 2; (focus (simp only [List.getElem?_toArray] <;> rfl)); (focus (refine Or.inl ⟨by rfl, ?_⟩; intro w hSw; (try dsimp only at hSw); go_simp <;> with_reducible rfl)); (try simp only [Act.put, List.setIfInBounds_toArray, List.set_cons_zero, List.set_cons_succ]))
    (refine wpAnyH_take (i := 38) (oi := ?_) (v := ?_) ?_ (by kernel_rfl) (by decide +kernel) (by decide +kernel) (fun _ _ _ h => h) ?_ (by assumption) ?_; rotate_left 2; (focus (simp only [List.getElem?_toArray] <;> rfl)); (focus (refine Or.inl ⟨by rfl, ?_⟩; intro w hSw; (try dsimp only at hSw); go_simp <;> with_reducible rfl)); (try simp only [Act.put, List.setIfInBounds_toArray, List.set_cons_zero, List.set_cons_succ]))
    (refine wpAnyH_take (i := 39) (oi := ?_) (v := ?_) ?_ (by kernel_rfl) (by decide +kernel) (by decide +kernel) (fun _ _ _ h => h) ?_ (by assumption) ?_; rotate_left 2; (focus (simp only [List.getElem?_toArray] <;> rfl)); (focus (refine Or.inl ⟨by rfl, ?_⟩; intro w hSw; (try dsimp only at hSw); go_simp <;> with_reducible rfl)); (try simp only [Act.put, List.setIfInBounds_toArray, List.set_cons_zero, List.set_cons_succ]))
    (refine wpAnyH_take (i := 40) (oi := ?_) (v := ?_) ?_ (by kernel_rfl) (by decide +kernel) (by decide +kernel) (fun _ _ _ h => h) ?_ (by assumption) ?_; rotate_left 2; (focus (simp only [List.getElem?_toArray] <;> rfl)); (focus (refine Or.inl ⟨by rfl, ?_⟩; intro w hSw; (try dsimp only at hSw); go_simp <;> with_reducible rfl)); (try simp only [Act.put, List.setIfInBounds_toArray, List.set_cons_zero, List.set_cons_succ]))
    (refine wpAnyH_take (i := 41) (oi := ?_) (v := ?_) ?_ (by kernel_rfl) (by decide +kernel) (by decide +kernel) (fun _ _ _ h => h) ?_ (by assumption) ?_; rotate_left 2; (focus (simp only [List.getElem?_toArray] <;> rfl)); (focus (refine Or.inl ⟨by rfl, ?_⟩; intro w hSw; (try dsimp only at hSw); go_simp <;> with_reducible rfl)); (try simp only [Act.put, List.setIfInBounds_toArray, List.set_cons_zero, List.set_cons_succ]))
    (refine wpAnyH_take (i := 42) (oi := ?_) (v := ?_) ?_ (by kernel_rfl) (by decide +kernel) (by decide +kernel) (fun _ _ _ h => h) ?_ (by assumption) ?_; rotate_left 2; (focus (simp only [List.getElem?_toArray] <;> rfl)); (focus (refine Or.inl ⟨by rfl, ?_⟩; intro w hSw; (try dsimp only at hSw); go_simp <;> with_reducible rfl)); (try simp only [Act.put, List.setIfInBounds_toArray, List.set_cons_zero, List.set_cons_succ]))
    (refine wpAnyH_take (i := 43) (oi := ?_) (v := ?_) ?_ (by kernel_rfl) (by decide +kernel) (by decide +kernel) (fun _ _ _ h => h) ?_ (by assumption) ?_; rotate_left 2; (focus (simp only [List.getElem?_toArray] <;> rfl)); (focus (refine Or.inl ⟨by rfl, ?_⟩; intro w hSw; (try dsimp only at hSw); go_simp <;> with_reducible rfl)); (try simp only [Act.put, List.setIfInBounds_toArray, List.set_cons_zero, List.set_cons_succ]))
    (refine wpAnyH_take (i := 44) (oi := ?_) (v := ?_) ?_ (by kernel_rfl) (by decide +kernel) (by decide +kernel) (fun _ _ _ h => h) ?_ (by assumption) ?_; rotate_left 2; (focus (simp only [List.getElem?_toArray] <;> rfl)); (focus (refine Or.inl ⟨by rfl, ?_⟩; intro w hSw; (try dsimp only at hSw); go_simp <;> with_reducible rfl)); (try simp only [Act.put, List.setIfInBounds_toArray, List.set_cons_zero, List.set_cons_succ]))
    (refine wpAnyH_take (i := 45) (oi := ?_) (v := ?_) ?_ (by kernel_rfl) (by decide +kernel) (by decide +kernel) (fun _ _ _ h => h) ?_ (by assumption) ?_; rotate_left 2; (focus (simp only [List.getElem?_toArray] <;> rfl)); (focus (refine Or.inl ⟨by rfl, ?_⟩; intro w hSw; (try dsimp only at hSw); go_simp <;> with_reducible rfl)); (try simp only [Act.put, List.setIfInBounds_toArray, List.set_cons_zero, List.set_cons_succ]))
    (refine wpAnyH_take (i := 46) (oi := ?_) (v := ?_) ?_ (by kernel_rfl) (by decide +kernel) (by decide +kernel) (fun _ _ _ h => h) ?_ (by assumption) ?_; rotate_left 2; (focus (simp only [List.getElem?_toArray] <;> rfl)); (focus (refine Or.inl ⟨by rfl, ?_⟩; intro w hSw; (try dsimp only at hSw); go_simp <;> with_reducible rfl)); (try simp only [Act.put, List.setIfInBounds_toArray, List.set_cons_zero, List.set_cons_succ]))
    (refine wpAnyH_take (i := 47) (oi := ?_) (v := ?_) ?_ (by kernel_rfl) (by decide +kernel) (by decide +kernel) (fun _ _ _ h => h) ?_ (by assumption) ?_; rotate_left 2; (focus (simp only [List.getElem?_toArray] <;> rfl)); (focus (refine Or.inl ⟨by rfl, ?_⟩; intro w hSw; (try dsimp only at hSw); go_simp <;> with_reducible rfl)); (try simp only [Act.put, List.setIfInBounds_toArray, List.set_cons_zero, List.set_cons_succ]))
    (refine wpAnyH_take (i := 48) (oi := ?_) (v := ?_) ?_ (by kernel_rfl) (by decide +kernel) (by decide +kernel) (fun _ _ _ h => h) ?_ (by assumption) ?_; rotate_left 2; (focus (simp only [List.getElem?_toArray] <;> rfl)); (focus (refine Or.inl ⟨by rfl, ?_⟩; intro w hSw; (try dsimp only at hSw); go_simp <;> with_reducible rfl)); (try simp only [Act.put, List.setIfInBounds_toArray, List.set_cons_zero, List.set_cons_succ]))
    (refine wpAnyH_take (i := 49) (oi := ?_) (v := ?_) ?_ (by kernel_rfl) (by decide +kernel) (by decide +kernel) (fun _ _ _ h => h) ?_ (by assumption) ?_; rotate_left 2; (focus (simp only [List.getElem?_toArray] <;> rfl)); (focus (refine Or.inl ⟨by rfl, ?_⟩; intro w hSw; (try dsimp only at hSw); go_simp <;> with_reducible rfl)); (try simp only [Act.put, List.setIfInBounds_toArray, List.set_cons_zero, List.set_cons_succ]))
    (refine wpAnyH_take (i := 50) (oi := ?_) (v := ?_) ?_ (by kernel_rfl) (by decide +kernel) (by decide +kernel) (fun _ _ _ h => h) ?_ (by assumption) ?_; rotate_left 2; (focus (simp only [List.getElem?_toArray] <;> rfl)); (focus (refine Or.inl ⟨by rfl, ?_⟩; intro w hSw; (try dsimp only at hSw); go_simp <;> with_reducible rfl)); (try simp only [Act.put, List.setIfInBounds_toArray, List.set_cons_zero, List.set_cons_succ]))
    (refine wpAnyH_take (i := 51) (oi := ?_) (v := ?_) ?_ (by kernel_rfl) (by decide +kernel) (by decide +kernel) (fun _ _ _ h => h) ?_ (by assumption) ?_; rotate_left 2; (focus (simp only [List.getElem?_toArray] <;> rfl)); (focus (refine Or.inl ⟨by rfl, ?_⟩; intro w hSw; (try dsimp only at hSw); go_simp <;> with_reducible rfl)); (try simp only [Act.put, List.setIfInBounds_toArray, List.set_cons_zero, List.set_cons_succ]))
    (refine wpAnyH_take (i := 52) (oi := ?_) (v := ?_) ?_ (by kernel_rfl) (by decide +kernel) (by decide +kernel) (fun _ _ _ h => h) ?_ (by assumption) ?_; rotate_left 2; (focus (simp only [List.getElem?_toArray] <;> rfl)); (focus (refine Or.inl ⟨by rfl, ?_⟩; intro w hSw; (try dsimp only at hSw); go_simp <;> with_reducible rfl)); (try simp only [Act.put, List.setIfInBounds_toArray, List.set_cons_zero, List.set_cons_succ]))
    (refine wpAnyH_take (i := 53) (oi := ?_) (v := ?_) ?_ (by kernel_rfl) (by decide +kernel) (by decide +kernel) (fun _ _ _ h => h) ?_ (by assumption) ?_; rotate_left 2; (focus (simp only [List.getElem?_toArray] <;> rfl)); (focus (refine Or.inl ⟨by rfl, ?_⟩; intro w hSw; (try dsimp only at hSw); go_simp <;> with_reducible rfl)); (try simp only [Act.put, List.setIfInBounds_toArray, List.set_cons_zero, List.set_cons_succ]))
    (refine wpAnyH_take (i := 54) (oi := ?_) (v := ?_) ?_ (by kernel_rfl) (by decide +kernel) (by decide +kernel) (fun _ _ _ h => h) ?_ (by assumption) ?_; rotate_left 2; (focus (simp only [List.getElem?_toArray] <;> rfl)); (focus (refine Or.inl ⟨by rfl, ?_⟩; intro w hSw; (try dsimp only at hSw); go_simp <;> with_reducible rfl)); (try simp only [Act.put, List.setIfInBounds_toArray, List.set_cons_zero, List.set_cons_succ]))
    (refine wpAnyH_take (i := 55) (oi := ?_) (v := ?_) ?_ (by kernel_rfl) (by decide +kernel) (by decide +kernel) (fun _ _ _ h => h) ?_ (by assumption) ?_; rotate_left 2; (focus (simp only [List.getElem?_toArray] <;> rfl)); (focus (refine Or.inl ⟨by rfl, ?_⟩; intro w hSw; (try dsimp only at hSw); go_simp <;> with_reducible rfl)); (try simp only [Act.put, List.setIfInBounds_toArray, List.set_cons_zero, List.set_cons_succ]))
    (refine wpAnyH_take (i := 56) (oi := ?_) (v := ?_) ?_ (by kernel_rfl) (by decide +kernel) (by decide +kernel) (fun _ _ _ h => h) ?_ (by assumption) ?_; rotate_left 2; (focus (simp only [List.getElem?_toArray] <;> rfl)); (focus (refine Or.inl ⟨by rfl, ?_⟩; intro w hSw; (try dsimp only at hSw); go_simp <;> with_reducible rfl)); (try simp only [Act.put, List.setIfInBounds_toArray, List.set_cons_zero, List.set_cons_succ]))
    (refine wpAnyH_take (i := 57) (oi := ?_) (v := ?_) ?_ (by kernel_rfl) (by decide +kernel) (by decide +kernel) (fun _ _ _ h => h) ?_ (by assumption) ?_; rotate_left 2; (focus (simp only [List.getElem?_toArray] <;> rfl)); (focus (refine Or.inl ⟨by rfl, ?_⟩; intro w hSw; (try dsimp only at hSw); go_simp <;> with_reducible rfl)); (try simp only [Act.put, List.setIfInBounds_toArray, List.set_cons_zero, List.set_cons_succ]))
    (refine wpAnyH_take (i := 58) (oi := ?_) (v := ?_) ?_ (by kernel_rfl) (by decide +kernel) (by decide +kernel) (fun _ _ _ h => h) ?_ (by assumption) ?_; rotate_left 2; (focus (simp only [List.getElem?_toArray] <;> rfl)); (focus (refine Or.inl ⟨by rfl, ?_⟩; intro w hSw; (try dsimp only at hSw); go_simp <;> with_reducible rfl)); (try simp only [Act.put, List.setIfInBounds_toArray, List.set_cons_zero, List.set_cons_succ]))
    (refine wpAnyH_take (i := 59) (oi := ?_) (v := ?_) ?_ (by kernel_rfl) (by decide +kernel) (by decide +kernel) (fun _ _ _ h => h) ?_ (by assumption) ?_; rotate_left 2; (focus (simp only [List.getElem?_toArray] <;> rfl)); (focus (refine Or.inl ⟨by rfl, ?_⟩; intro w hSw; (try dsimp only at hSw); go_simp <;> with_reducible rfl)); (try simp only [Act.put, List.setIfInBounds_toArray, List.set_cons_zero, List.set_cons_succ]))
    (refine wpAnyH_take (i := 60) (oi := ?_) (v := ?_) ?_ (by kernel_rfl) (by decide +kernel) (by decide +kernel) (fun _ _ _ h => h) ?_ (by assumption) ?_; rotate_left 2; (focus (simp only [List.getElem?_toArray] <;> rfl)); (focus (refine Or.inl ⟨by rfl, ?_⟩; intro w hSw; (try dsimp only at hSw); go_simp <;> with_reducible rfl)); (try simp only [Act.put, List.setIfInBounds_toArray, List.set_cons_zero, List.set_cons_succ]))
    (refine wpAnyH_take (i := 61) (oi := ?_) (v := ?_) ?_ (by kernel_rfl) (by decide +kernel) (by decide +kernel) (fun _ _ _ h => h) ?_ (by assumption) ?_; rotate_left 2; (focus (simp only [List.getElem?_toArray] <;> rfl)); (focus (refine Or.inl ⟨by rfl, ?_⟩; intro w hSw; (try dsimp only at hSw); go_simp <;> with_reducible rfl)); (try simp only [Act.put, List.setIfInBounds_toArray, List.set_cons_zero, List.set_cons_succ]))
    refine wpAnyH_ready (rs := [62]) (by decide +kernel) (by simp) ?_
    refine AllReadyH.cons rfl (fun K hK => ?_) AllReadyH.nil
    go_simp
    go_at_call 27
    refine (CE.out xd _ (FRD1.out _ BB1.out)).mono ?_
    rintro e wz1 ⟨rfl, hb⟩
    have BB2 := Lib.hid (belG BB1.out hb BB1.out.size)
    clear hb
    refine hK.out _ _ (KEEP.out _ BB2.out) (fun hHeld => ?_)
    clear hK K
    (try simp only [Act.put, List.setIfInBounds_toArray, List.set_cons_zero, List.set_cons_succ])
    (refine wpAnyH_take (i := 63) (oi := ?_) (v := ?_) ?_ (by kernel_rfl) (by decide +kernel) (by decide +kernel) (fun _ _ _ h => h) ?_ (by assumption) ?_; rotate_left 2; (focus (simp only [List.getElem?_toArray] <;> rfl)); (focus (refine Or.inl ⟨by rfl, ?_⟩; intro w hSw; (try dsimp only at hSw); go_simp <;> with_reducible rfl)); (try simp only [Act.put, List.setIfInBounds_toArray, List.set_cons_zero, List.set_cons_succ]))
    (refine wpAnyH_take (i := 64) (oi := ?_) (v := ?_) ?_ (by kernel_rfl) (by decide +kernel) (by decide +kernel) (fun _ _ _ h => h) ?_ (by assumption) ?_; rotate_left 2; (focus (simp only [List.getElem?_toArray] <;> rfl)); (focus (refine Or.inl ⟨by rfl, ?_⟩; intro w hSw; (try dsimp only at hSw); go_simp <;> with_reducible rfl)); (try simp only [Act.put, List.setIfInBounds_toArray, List.set_cons_zero, List.set_cons_succ]))
    refine wpAnyH_done (by decide +kernel) ?_ _
    refine NoPanic.normal ?_
    clear KEEP
    have nHB := Lib.hid (F0.out _ BB2.out)
    have nME1 := Lib.hid (FME1.out _ BB2.out)
    have nMG1 := Lib.hid (FMG1.out _ BB2.out)
    have nRD1 := Lib.hid (FRD1.out _ BB2.out)
    have nGD := Lib.hid (BoxH.old GD.out BB2.out (Nat.le_refl _))
    have nG9 := Lib.hid (BoxH.old G9.out BB2.out (Nat.le_refl _))
    have nGB := Lib.hid (BoxH.old GB.out BB2.out (Nat.le_refl _))
    clear F0 FME1 FMG1 FRD1
    clear HB ME1 MG1 RD1 GD G9 GB
    have HB := nHB
    have ME1 := nME1
    have MG1 := nMG1
    have RD1 := nRD1
    have GD := nGD
    have G9 := nG9
    have GB := nGB
    clear nHB nME1 nMG1 nRD1 nGD nG9 nGB
    go_wp2_with (first | (refine loadHb _ (.tmp 9) g9 x1 H1 G9.out rfl rfl rfl ?_) | (refine loadHb _ (.tmp 15) gb xb Q1 GB.out rfl rfl rfl ?_) | (refine loadHb _ (.tmp 20) gd xd S1 GD.out rfl rfl rfl ?_))
    go_ret
    exact ⟨by first | rfl | simp, HB.out⟩
end Go.Proofs.Ytplekllhnpljiaa
