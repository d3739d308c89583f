
/- WinMarks' walk. -/
import Derived.Test.YtdnfggjklblpnaaJ06
namespace Go.Proofs.Ytdnfggjklblpnaa
open Go.RowKit

set_option maxRecDepth 100000 in
set_option maxHeartbeats 4000000 in
theorem winMarks_walk (a : Wn) (n : Int) (W : World) (h64 : W64 a) (_ht : B64w a.top) (hn : B64w n) :
    Calls Try.prog 4 #[.agg (winC a), .int .i64 n] W fun e W' => e = .returned (.bool true) ∧ Below W.heap.size W W' := by
  have CR := Lib.hid (fun w => right10_any a h64 w)
  by_cases hR : RightW a
  case neg =>
    rw [decide_eq_false hR] at CR
    clear h64 _ht hR hn
    obtain ⟨V0, C, hC, hV, hb, hg⟩ := boxW1 W a
    have HB := Lib.hid hb
    have G0 := Lib.hid hg
    have HV := Lib.hid hV
    rw [← hC]
    clear hb hg hV hC
    go_enter Try.func4, Try.ntmps4
    go_upto_region 1 with (fail)
    rw [← HV.out]
    clear HV
    go_wp2_with fail
    refine (shown10_any _).mono ?_
    rintro e w1 ⟨rfl, hb⟩
    have nHB := Lib.hid (belG HB.out hb HB.out.size)
    have nG0 := Lib.hid (oldG G0.out hb (Nat.le_refl _))
    clear hb
    clear HB G0
    have HB := nHB
    have G0 := nG0
    clear nHB nG0
    go_wp2_with (first | (refine loadW _ (.tmp 2) W.heap.size a G0.out rfl rfl rfl ?_))
    refine (CR.out _).mono ?_
    rintro e w2 ⟨rfl, hb⟩
    have nHB := Lib.hid (belG HB.out hb HB.out.size)
    have nG0 := Lib.hid (oldG G0.out hb (Nat.le_refl _))
    clear hb
    clear HB G0
    have HB := nHB
    have G0 := nG0
    clear nHB nG0
    go_wp2_with (first | (refine loadW _ (.tmp 2) W.heap.size a G0.out rfl rfl rfl ?_))
    go_ret
    exact ⟨rfl, HB.out⟩
  rw [decide_eq_true hR] at CR
  have C1 := Lib.hid (fun w => wMark_any a h64 hR n hn w)
  have C2 := Lib.hid (fun w => mark10_any a h64 hR n w)
  unfold AnsWn at C1 C2
  generalize markR a n = r at *
  obtain ⟨R, c⟩ := r
  simp only at C1 C2
  have heq := fun W => run_eqlW W R R
  simp only [decide_eq_true (SameW.refl R)] at heq
  clear h64 _ht hR hn
  obtain ⟨V0, C, hC, hV, hb, hg⟩ := boxW1 W a
  have HB := Lib.hid hb
  have G0 := Lib.hid hg
  have HV := Lib.hid hV
  rw [← hC]
  clear hb hg hV hC
  go_enter Try.func4, Try.ntmps4
  go_upto_region 1 with (fail)
  rw [← HV.out]
  clear HV
  go_wp2_with fail
  refine (shown10_any _).mono ?_
  rintro e w1 ⟨rfl, hb⟩
  have nHB := Lib.hid (belG HB.out hb HB.out.size)
  have nG0 := Lib.hid (oldG G0.out hb (Nat.le_refl _))
  clear hb
  clear HB G0
  have HB := nHB
  have G0 := nG0
  clear nHB nG0
  go_wp2_with (first | (refine loadW _ (.tmp 2) W.heap.size a G0.out rfl rfl rfl ?_))
  refine (CR.out _).mono ?_
  rintro e w2 ⟨rfl, hb⟩
  have nHB := Lib.hid (belG HB.out hb HB.out.size)
  have nG0 := Lib.hid (oldG G0.out hb (Nat.le_refl _))
  clear hb
  clear HB G0
  have HB := nHB
  have G0 := nG0
  clear nHB nG0
  go_wp2_with (first | (refine loadW _ (.tmp 2) W.heap.size a G0.out rfl rfl rfl ?_))
  refine (C1.out _).mono ?_
  rintro e w3 ⟨rfl, hb⟩
  have nHB := Lib.hid (belG HB.out hb HB.out.size)
  have nG0 := Lib.hid (oldG G0.out hb (Nat.le_refl _))
  clear hb
  clear HB G0
  have HB := nHB
  have G0 := nG0
  clear nHB nG0
  have LB := Lib.hid HB.out.size
  have LTG0 := Lib.hid (show W.heap.size < w3.heap.size from (Array.getElem?_eq_some_iff.1 G0.out).1)
  obtain ⟨V3, hV3⟩ : ∃ V, V = w3.alloc (.cells (winC R) 25) := ⟨_, rfl⟩
  have ha := (Below.refl w3.heap.size w3).alloc (Nat.le_refl _) (.cells (winC R) 25)
  have hg := heap_alloc_new w3 (.cells (winC R) 25)
  have nHB := Lib.hid (HB.out.alloc HB.out.size (.cells (winC R) 25))
  rw [← hV3] at ha hg nHB
  have nG0 := Lib.hid (oldG G0.out ha (Nat.le_refl _))
  obtain ⟨g6, hg6⟩ : ∃ g, g = w3.heap.size := ⟨_, rfl⟩
  rw [← hg6] at hg
  have HXG6 := Lib.hid hg6
  have G6 := Lib.hid hg
  have HV := Lib.hid hV3
  clear ha hg hV3 hg6
  clear HB G0
  have HB := nHB
  have G0 := nG0
  clear nHB nG0
  have LEG6 := Lib.hid (show W.heap.size ≤ g6 from by rw [HXG6.out]; exact LB.out)
  have NEG0G6 := Lib.hid (show W.heap.size ≠ g6 from by have h1 := LTG0.out; rw [HXG6.out]; omega)
  have NEG6G0 := Lib.hid (NEG0G6.out.symm)
  clear LB LTG0
  go_upto_region 5 with (refine storeW _ (.tmp 6) (.tmp 19) _ R _ (heap_alloc_new _ _) rfl rfl rfl rfl rfl ?_; rw [setRowG_fold])
  rw [← HV.out]
  (try rw [← HXG6.out])
  clear HV HXG6
  go_wp2_with (first | (refine loadW _ (.tmp 2) W.heap.size a G0.out rfl rfl rfl ?_) | (refine loadW _ (.tmp 6) g6 R G6.out rfl rfl rfl ?_))
  refine (C2.out _).mono ?_
  rintro e w4 ⟨rfl, hb⟩
  have nHB := Lib.hid (belG HB.out hb HB.out.size)
  have nG0 := Lib.hid (oldG G0.out hb (Nat.le_refl _))
  have nG6 := Lib.hid (oldG G6.out hb (Nat.le_refl _))
  clear hb
  clear HB G0 G6
  have HB := nHB
  have G0 := nG0
  have G6 := nG6
  clear nHB nG0 nG6
  have LB := Lib.hid HB.out.size
  have LTG0 := Lib.hid (show W.heap.size < w4.heap.size from (Array.getElem?_eq_some_iff.1 G0.out).1)
  have LTG6 := Lib.hid (show g6 < w4.heap.size from (Array.getElem?_eq_some_iff.1 G6.out).1)
  obtain ⟨V4, hV4⟩ : ∃ V, V = w4.alloc (.cells (winC R) 25) := ⟨_, rfl⟩
  have ha := (Below.refl w4.heap.size w4).alloc (Nat.le_refl _) (.cells (winC R) 25)
  have hg := heap_alloc_new w4 (.cells (winC R) 25)
  have nHB := Lib.hid (HB.out.alloc HB.out.size (.cells (winC R) 25))
  rw [← hV4] at ha hg nHB
  have nG0 := Lib.hid (oldG G0.out ha (Nat.le_refl _))
  have nG6 := Lib.hid (oldG G6.out ha (Nat.le_refl _))
  obtain ⟨g8, hg8⟩ : ∃ g, g = w4.heap.size := ⟨_, rfl⟩
  rw [← hg8] at hg
  have HXG8 := Lib.hid hg8
  have G8 := Lib.hid hg
  have HV := Lib.hid hV4
  clear ha hg hV4 hg8
  clear HB G0 G6
  have HB := nHB
  have G0 := nG0
  have G6 := nG6
  clear nHB nG0 nG6
  have LEG8 := Lib.hid (show W.heap.size ≤ g8 from by rw [HXG8.out]; exact LB.out)
  have NEG0G8 := Lib.hid (show W.heap.size ≠ g8 from by have h1 := LTG0.out; rw [HXG8.out]; omega)
  have NEG8G0 := Lib.hid (NEG0G8.out.symm)
  have NEG6G8 := Lib.hid (show g6 ≠ g8 from by have h1 := LTG6.out; rw [HXG8.out]; omega)
  have NEG8G6 := Lib.hid (NEG6G8.out.symm)
  clear LB LTG0 LTG6
  go_upto_region 6 with (refine storeW _ (.tmp 8) (.tmp 25) _ R _ (heap_alloc_new _ _) rfl rfl rfl rfl rfl ?_; rw [setRowG_fold])
  rw [← HV.out]
  (try rw [← HXG8.out])
  clear HV HXG8
  go_wp2_with (first | (refine loadW _ (.tmp 2) W.heap.size a G0.out rfl rfl rfl ?_) | (refine loadW _ (.tmp 6) g6 R G6.out rfl rfl rfl ?_) | (refine loadW _ (.tmp 8) g8 R G8.out rfl rfl rfl ?_))
  go_ret
  exact ⟨by first | rfl | simp, HB.out⟩
end Go.Proofs.Ytdnfggjklblpnaa
