
/- WinLeaves' walk. -/
import Derived.Test.YtdnfggjklblpnaaWLvA
import Derived.Test.YtdnfggjklblpnaaWLvB
import Derived.Test.YtdnfggjklblpnaaWLvC
namespace Go.Proofs.Ytdnfggjklblpnaa
open Go.RowKit

set_option maxRecDepth 100000 in
set_option maxHeartbeats 4000000 in
theorem winLeaves_walk (a : Wn) (n o : Int) (W : World) (h64 : W64 a) (ht : B64w a.top) (hn : B64w n) (ho : B64w o) :
    Calls Try.prog 6 #[.agg (winC a), .int .i64 n, .int .i64 o] W fun e W' => e = .returned (.bool true) ∧ Below W.heap.size W W' := by
  have CR := Lib.hid (fun w => right10_any a h64 w)
  by_cases hR : RightW a
  case neg =>
    rw [decide_eq_false hR] at CR
    clear h64 ht hR hn ho
    obtain ⟨V0, C, hC, hV, hb, hg⟩ := boxW1 W a
    have HB := Lib.hid hb
    have G0 := Lib.hid hg
    have HV := Lib.hid hV
    rw [← hC]
    clear hb hg hV hC
    go_enter Try.func6, Try.ntmps6
    go_upto_region 1 with (fail)
    rw [← HV.out]
    clear HV
    go_wp2_with fail
    refine (shown10_any _).mono ?_
    rintro e w1 ⟨rfl, hb⟩
    have nHB := Lib.hid (belG HB.out hb HB.out.size)
    have nG0 := Lib.hid (oldG G0.out hb (Nat.le_refl _))
    clear hb
    clear HB G0
    have HB := nHB
    have G0 := nG0
    clear nHB nG0
    go_wp2_with (first | (refine loadW _ (.tmp 3) W.heap.size a G0.out rfl rfl rfl ?_))
    refine (CR.out _).mono ?_
    rintro e w2 ⟨rfl, hb⟩
    have nHB := Lib.hid (belG HB.out hb HB.out.size)
    have nG0 := Lib.hid (oldG G0.out hb (Nat.le_refl _))
    clear hb
    clear HB G0
    have HB := nHB
    have G0 := nG0
    clear nHB nG0
    go_wp2_with (first | (refine loadW _ (.tmp 3) W.heap.size a G0.out rfl rfl rfl ?_))
    go_ret
    exact ⟨rfl, HB.out⟩
  rw [decide_eq_true hR] at CR
  have C1 := Lib.hid (fun w => wMark_any a h64 hR n hn w)
  unfold AnsWn at C1
  by_cases hf : ¬ FreshW a n
  case pos =>
    have C2 := Lib.hid (fun w => wFresh_any a h64 hR n hn w)
    rw [decide_eq_false hf] at C2
    have heq := fun W => run_eqlW W a a
    simp only [decide_eq_true (SameW.refl a)] at heq
    obtain ⟨c, hc, hc0⟩ : ∃ c : Int, markR a n = (a, c) ∧ c ≠ 0 := by
      by_cases h : 0 ≤ n ∧ n ≤ most
      · exact ⟨6, markR_old h hf, by omega⟩
      · exact ⟨1, markR_arg h, by omega⟩
    rw [hc] at C1
    simp only at C1
    have hc1 : (c == 0) = false := beq_eq_false_iff_ne.2 hc0
    clear h64 ht hR hf hn ho hc
    obtain ⟨V0, C, hC, hV, hb, hg⟩ := boxW1 W a
    have HB := Lib.hid hb
    have G0 := Lib.hid hg
    have HV := Lib.hid hV
    rw [← hC]
    clear hb hg hV hC
    go_enter Try.func6, Try.ntmps6
    go_upto_region 1 with (fail)
    rw [← HV.out]
    clear HV
    go_wp2_with fail
    refine (shown10_any _).mono ?_
    rintro e w1 ⟨rfl, hb⟩
    have nHB := Lib.hid (belG HB.out hb HB.out.size)
    have nG0 := Lib.hid (oldG G0.out hb (Nat.le_refl _))
    clear hb
    clear HB G0
    have HB := nHB
    have G0 := nG0
    clear nHB nG0
    go_wp2_with (first | (refine loadW _ (.tmp 3) W.heap.size a G0.out rfl rfl rfl ?_))
    refine (CR.out _).mono ?_
    rintro e w2 ⟨rfl, hb⟩
    have nHB := Lib.hid (belG HB.out hb HB.out.size)
    have nG0 := Lib.hid (oldG G0.out hb (Nat.le_refl _))
    clear hb
    clear HB G0
    have HB := nHB
    have G0 := nG0
    clear nHB nG0
    go_wp2_with (first | (refine loadW _ (.tmp 3) W.heap.size a G0.out rfl rfl rfl ?_))
    refine (C1.out _).mono ?_
    rintro e w3 ⟨rfl, hb⟩
    have nHB := Lib.hid (belG HB.out hb HB.out.size)
    have nG0 := Lib.hid (oldG G0.out hb (Nat.le_refl _))
    clear hb
    clear HB G0
    have HB := nHB
    have G0 := nG0
    clear nHB nG0
    have LB := Lib.hid HB.out.size
    have LTG0 := Lib.hid (show W.heap.size < w3.heap.size from (Array.getElem?_eq_some_iff.1 G0.out).1)
    obtain ⟨V3, hV3⟩ : ∃ V, V = w3.alloc (.cells (winC a) 25) := ⟨_, rfl⟩
    have ha := (Below.refl w3.heap.size w3).alloc (Nat.le_refl _) (.cells (winC a) 25)
    have hg := heap_alloc_new w3 (.cells (winC a) 25)
    have nHB := Lib.hid (HB.out.alloc HB.out.size (.cells (winC a) 25))
    rw [← hV3] at ha hg nHB
    have nG0 := Lib.hid (oldG G0.out ha (Nat.le_refl _))
    obtain ⟨g8, hg8⟩ : ∃ g, g = w3.heap.size := ⟨_, rfl⟩
    rw [← hg8] at hg
    have HXG8 := Lib.hid hg8
    have G8 := Lib.hid hg
    have HV := Lib.hid hV3
    clear ha hg hV3 hg8
    clear HB G0
    have HB := nHB
    have G0 := nG0
    clear nHB nG0
    have LEG8 := Lib.hid (show W.heap.size ≤ g8 from by rw [HXG8.out]; exact LB.out)
    have NEG0G8 := Lib.hid (show W.heap.size ≠ g8 from by have h1 := LTG0.out; rw [HXG8.out]; omega)
    have NEG8G0 := Lib.hid (NEG0G8.out.symm)
    clear LB LTG0
    go_upto_region 5 with (refine storeW _ (.tmp 8) (.tmp 19) _ a _ (heap_alloc_new _ _) rfl rfl rfl rfl rfl ?_; rw [setRowG_fold])
    rw [← HV.out]
    (try rw [← HXG8.out])
    clear HV HXG8
    go_wp2_with (first | (refine loadW _ (.tmp 3) W.heap.size a G0.out rfl rfl rfl ?_) | (refine loadW _ (.tmp 8) g8 a G8.out rfl rfl rfl ?_))
    refine (C2.out _).mono ?_
    rintro e w4 ⟨rfl, hb⟩
    have nHB := Lib.hid (belG HB.out hb HB.out.size)
    have nG0 := Lib.hid (oldG G0.out hb (Nat.le_refl _))
    have nG8 := Lib.hid (oldG G8.out hb (Nat.le_refl _))
    clear hb
    clear HB G0 G8
    have HB := nHB
    have G0 := nG0
    have G8 := nG8
    clear nHB nG0 nG8
    go_wp2_with (first | (refine loadW _ (.tmp 3) W.heap.size a G0.out rfl rfl rfl ?_) | (refine loadW _ (.tmp 8) g8 a G8.out rfl rfl rfl ?_))
    go_ret
    exact ⟨by first | rfl | simp, HB.out⟩
  have hf : FreshW a n := Classical.byContradiction hf
  clear CR C1
  by_cases h1 : o = n
  · exact winLeaves_a a n o W h64 ht hn ho hR hf h1
  · by_cases h2 : n - 1024 < o
    · exact winLeaves_c a n o W h64 ht hn ho hR hf h1 h2
    · exact winLeaves_b a n o W h64 ht hn ho hR hf h1 h2
end Go.Proofs.Ytdnfggjklblpnaa
