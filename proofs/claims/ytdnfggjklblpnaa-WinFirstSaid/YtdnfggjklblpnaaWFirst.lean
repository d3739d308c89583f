
/- WinFirst's walk. -/
import Derived.Test.YtdnfggjklblpnaaJ07
import Derived.Test.YtdnfggjklblpnaaJ06
namespace Go.Proofs.Ytdnfggjklblpnaa
open Go.RowKit

set_option maxRecDepth 100000 in
set_option maxHeartbeats 4000000 in
theorem winFirst_walk (n o : Int) (W : World) (hn : B64w n) (ho : B64w o) :
    Calls Try.prog 9 #[.int .i64 n, .int .i64 o] W fun e W' => e = .returned (.bool true) ∧ Below W.heap.size W W' := by
  have C1 := Lib.hid (fun (w : World) => (show Calls Try.prog 15 #[.agg #[.int .i64 0, .int .u64 0, .int .u64 0, .int .u64 0, .int .u64 0, .int .u64 0, .int .u64 0, .int .u64 0, .int .u64 0, .int .u64 0, .int .u64 0, .int .u64 0, .int .u64 0, .int .u64 0, .int .u64 0, .int .u64 0, .int .u64 0], .int .i64 n] w fun e W' => AnsWn e (markR wn0 n) ∧ Below w.heap.size w W' from wMark_any wn0 w640 right0 n hn w))
  have C2 := Lib.hid (fun (w : World) => (show Calls Try.prog 13 #[.agg #[.int .i64 0, .int .u64 0, .int .u64 0, .int .u64 0, .int .u64 0, .int .u64 0, .int .u64 0, .int .u64 0, .int .u64 0, .int .u64 0, .int .u64 0, .int .u64 0, .int .u64 0, .int .u64 0, .int .u64 0, .int .u64 0, .int .u64 0], .int .i64 o] w fun e W' => e = .returned (.bool (decide (FreshW wn0 o))) ∧ Below w.heap.size w W' from wFresh_any wn0 w640 right0 o ho w))
  unfold AnsWn at C1
  obtain ⟨n1, n2⟩ := hn
  obtain ⟨o1, o2⟩ := ho
  by_cases h1 : n < 0
  case pos =>
    rw [markR_arg (fun h9 => by unfold most at h9; omega)] at C1
    simp only at C1
    generalize wn0 = R at C1
    by_cases k1 : o < 0
    case pos =>
      rw [decide_eq_false (fun h => by have h9 := fresh0.1 h; unfold most at h9; omega)] at C2
      have HB := Lib.hid (Below.refl W.heap.size W)
      go_enter Try.func9, Try.ntmps9
      go_wp2_with fail
      refine (shown10_any _).mono ?_
      rintro e w1 ⟨rfl, hb⟩
      have nHB := Lib.hid (belG HB.out hb HB.out.size)
      clear hb
      clear HB 
      have HB := nHB
      clear nHB 
      go_wp2_with fail
      refine (C1.out _).mono ?_
      rintro e w2 ⟨rfl, hb⟩
      have nHB := Lib.hid (belG HB.out hb HB.out.size)
      clear hb
      clear HB 
      have HB := nHB
      clear nHB 
      have LB := Lib.hid HB.out.size
      obtain ⟨V2, hV2⟩ : ∃ V, V = w2.alloc (.cells (winC R) 25) := ⟨_, rfl⟩
      have ha := (Below.refl w2.heap.size w2).alloc (Nat.le_refl _) (.cells (winC R) 25)
      have hg := heap_alloc_new w2 (.cells (winC R) 25)
      have nHB := Lib.hid (HB.out.alloc HB.out.size (.cells (winC R) 25))
      rw [← hV2] at ha hg nHB
      obtain ⟨g8, hg8⟩ : ∃ g, g = w2.heap.size := ⟨_, rfl⟩
      rw [← hg8] at hg
      have HXG8 := Lib.hid hg8
      have G8 := Lib.hid hg
      have HV := Lib.hid hV2
      clear ha hg hV2 hg8
      clear HB 
      have HB := nHB
      clear nHB 
      have LEG8 := Lib.hid (show W.heap.size ≤ g8 from by rw [HXG8.out]; exact LB.out)
      clear LB
      go_upto_region 5 with (refine storeW _ (.tmp 8) (.tmp 27) _ R _ (heap_alloc_new _ _) rfl rfl rfl rfl rfl ?_; rw [setRowG_fold])
      rw [← HV.out]
      (try rw [← HXG8.out])
      clear HV HXG8
      go_wp2_with fail
      refine (C2.out _).mono ?_
      rintro e w3 ⟨rfl, hb⟩
      have nHB := Lib.hid (belG HB.out hb HB.out.size)
      have nG8 := Lib.hid (oldG G8.out hb (Nat.le_refl _))
      clear hb
      clear HB G8
      have HB := nHB
      have G8 := nG8
      clear nHB nG8
      go_wp2_with fail
      go_ret
      exact ⟨by first | rfl | (simp; done) | (simp; omega), HB.out⟩
    by_cases k2 : 4611686018427387904 < o
    case pos =>
      rw [decide_eq_false (fun h => by have h9 := fresh0.1 h; unfold most at h9; omega)] at C2
      have HB := Lib.hid (Below.refl W.heap.size W)
      go_enter Try.func9, Try.ntmps9
      go_wp2_with fail
      refine (shown10_any _).mono ?_
      rintro e w1 ⟨rfl, hb⟩
      have nHB := Lib.hid (belG HB.out hb HB.out.size)
      clear hb
      clear HB 
      have HB := nHB
      clear nHB 
      go_wp2_with fail
      refine (C1.out _).mono ?_
      rintro e w2 ⟨rfl, hb⟩
      have nHB := Lib.hid (belG HB.out hb HB.out.size)
      clear hb
      clear HB 
      have HB := nHB
      clear nHB 
      have LB := Lib.hid HB.out.size
      obtain ⟨V2, hV2⟩ : ∃ V, V = w2.alloc (.cells (winC R) 25) := ⟨_, rfl⟩
      have ha := (Below.refl w2.heap.size w2).alloc (Nat.le_refl _) (.cells (winC R) 25)
      have hg := heap_alloc_new w2 (.cells (winC R) 25)
      have nHB := Lib.hid (HB.out.alloc HB.out.size (.cells (winC R) 25))
      rw [← hV2] at ha hg nHB
      obtain ⟨g8, hg8⟩ : ∃ g, g = w2.heap.size := ⟨_, rfl⟩
      rw [← hg8] at hg
      have HXG8 := Lib.hid hg8
      have G8 := Lib.hid hg
      have HV := Lib.hid hV2
      clear ha hg hV2 hg8
      clear HB 
      have HB := nHB
      clear nHB 
      have LEG8 := Lib.hid (show W.heap.size ≤ g8 from by rw [HXG8.out]; exact LB.out)
      clear LB
      go_upto_region 5 with (refine storeW _ (.tmp 8) (.tmp 27) _ R _ (heap_alloc_new _ _) rfl rfl rfl rfl rfl ?_; rw [setRowG_fold])
      rw [← HV.out]
      (try rw [← HXG8.out])
      clear HV HXG8
      go_wp2_with fail
      refine (C2.out _).mono ?_
      rintro e w3 ⟨rfl, hb⟩
      have nHB := Lib.hid (belG HB.out hb HB.out.size)
      have nG8 := Lib.hid (oldG G8.out hb (Nat.le_refl _))
      clear hb
      clear HB G8
      have HB := nHB
      have G8 := nG8
      clear nHB nG8
      go_wp2_with fail
      go_ret
      exact ⟨by first | rfl | (simp; done) | (simp; omega), HB.out⟩
    rw [decide_eq_true (fresh0.2 ⟨by omega, by unfold most; omega⟩)] at C2
    have HB := Lib.hid (Below.refl W.heap.size W)
    go_enter Try.func9, Try.ntmps9
    go_wp2_with fail
    refine (shown10_any _).mono ?_
    rintro e w1 ⟨rfl, hb⟩
    have nHB := Lib.hid (belG HB.out hb HB.out.size)
    clear hb
    clear HB 
    have HB := nHB
    clear nHB 
    go_wp2_with fail
    refine (C1.out _).mono ?_
    rintro e w2 ⟨rfl, hb⟩
    have nHB := Lib.hid (belG HB.out hb HB.out.size)
    clear hb
    clear HB 
    have HB := nHB
    clear nHB 
    have LB := Lib.hid HB.out.size
    obtain ⟨V2, hV2⟩ : ∃ V, V = w2.alloc (.cells (winC R) 25) := ⟨_, rfl⟩
    have ha := (Below.refl w2.heap.size w2).alloc (Nat.le_refl _) (.cells (winC R) 25)
    have hg := heap_alloc_new w2 (.cells (winC R) 25)
    have nHB := Lib.hid (HB.out.alloc HB.out.size (.cells (winC R) 25))
    rw [← hV2] at ha hg nHB
    obtain ⟨g8, hg8⟩ : ∃ g, g = w2.heap.size := ⟨_, rfl⟩
    rw [← hg8] at hg
    have HXG8 := Lib.hid hg8
    have G8 := Lib.hid hg
    have HV := Lib.hid hV2
    clear ha hg hV2 hg8
    clear HB 
    have HB := nHB
    clear nHB 
    have LEG8 := Lib.hid (show W.heap.size ≤ g8 from by rw [HXG8.out]; exact LB.out)
    clear LB
    go_upto_region 5 with (refine storeW _ (.tmp 8) (.tmp 27) _ R _ (heap_alloc_new _ _) rfl rfl rfl rfl rfl ?_; rw [setRowG_fold])
    rw [← HV.out]
    (try rw [← HXG8.out])
    clear HV HXG8
    go_wp2_with fail
    refine (C2.out _).mono ?_
    rintro e w3 ⟨rfl, hb⟩
    have nHB := Lib.hid (belG HB.out hb HB.out.size)
    have nG8 := Lib.hid (oldG G8.out hb (Nat.le_refl _))
    clear hb
    clear HB G8
    have HB := nHB
    have G8 := nG8
    clear nHB nG8
    go_wp2_with fail
    go_ret
    exact ⟨by first | rfl | (simp; done) | (simp; omega), HB.out⟩
  by_cases h2 : 4611686018427387904 < n
  case pos =>
    rw [markR_arg (fun h9 => by unfold most at h9; omega)] at C1
    simp only at C1
    generalize wn0 = R at C1
    by_cases k1 : o < 0
    case pos =>
      rw [decide_eq_false (fun h => by have h9 := fresh0.1 h; unfold most at h9; omega)] at C2
      have HB := Lib.hid (Below.refl W.heap.size W)
      go_enter Try.func9, Try.ntmps9
      go_wp2_with fail
      refine (shown10_any _).mono ?_
      rintro e w1 ⟨rfl, hb⟩
      have nHB := Lib.hid (belG HB.out hb HB.out.size)
      clear hb
      clear HB 
      have HB := nHB
      clear nHB 
      go_wp2_with fail
      refine (C1.out _).mono ?_
      rintro e w2 ⟨rfl, hb⟩
      have nHB := Lib.hid (belG HB.out hb HB.out.size)
      clear hb
      clear HB 
      have HB := nHB
      clear nHB 
      have LB := Lib.hid HB.out.size
      obtain ⟨V2, hV2⟩ : ∃ V, V = w2.alloc (.cells (winC R) 25) := ⟨_, rfl⟩
      have ha := (Below.refl w2.heap.size w2).alloc (Nat.le_refl _) (.cells (winC R) 25)
      have hg := heap_alloc_new w2 (.cells (winC R) 25)
      have nHB := Lib.hid (HB.out.alloc HB.out.size (.cells (winC R) 25))
      rw [← hV2] at ha hg nHB
      obtain ⟨g8, hg8⟩ : ∃ g, g = w2.heap.size := ⟨_, rfl⟩
      rw [← hg8] at hg
      have HXG8 := Lib.hid hg8
      have G8 := Lib.hid hg
      have HV := Lib.hid hV2
      clear ha hg hV2 hg8
      clear HB 
      have HB := nHB
      clear nHB 
      have LEG8 := Lib.hid (show W.heap.size ≤ g8 from by rw [HXG8.out]; exact LB.out)
      clear LB
      go_upto_region 5 with (refine storeW _ (.tmp 8) (.tmp 27) _ R _ (heap_alloc_new _ _) rfl rfl rfl rfl rfl ?_; rw [setRowG_fold])
      rw [← HV.out]
      (try rw [← HXG8.out])
      clear HV HXG8
      go_wp2_with fail
      refine (C2.out _).mono ?_
      rintro e w3 ⟨rfl, hb⟩
      have nHB := Lib.hid (belG HB.out hb HB.out.size)
      have nG8 := Lib.hid (oldG G8.out hb (Nat.le_refl _))
      clear hb
      clear HB G8
      have HB := nHB
      have G8 := nG8
      clear nHB nG8
      go_wp2_with fail
      go_ret
      exact ⟨by first | rfl | (simp; done) | (simp; omega), HB.out⟩
    by_cases k2 : 4611686018427387904 < o
    case pos =>
      rw [decide_eq_false (fun h => by have h9 := fresh0.1 h; unfold most at h9; omega)] at C2
      have HB := Lib.hid (Below.refl W.heap.size W)
      go_enter Try.func9, Try.ntmps9
      go_wp2_with fail
      refine (shown10_any _).mono ?_
      rintro e w1 ⟨rfl, hb⟩
      have nHB := Lib.hid (belG HB.out hb HB.out.size)
      clear hb
      clear HB 
      have HB := nHB
      clear nHB 
      go_wp2_with fail
      refine (C1.out _).mono ?_
      rintro e w2 ⟨rfl, hb⟩
      have nHB := Lib.hid (belG HB.out hb HB.out.size)
      clear hb
      clear HB 
      have HB := nHB
      clear nHB 
      have LB := Lib.hid HB.out.size
      obtain ⟨V2, hV2⟩ : ∃ V, V = w2.alloc (.cells (winC R) 25) := ⟨_, rfl⟩
      have ha := (Below.refl w2.heap.size w2).alloc (Nat.le_refl _) (.cells (winC R) 25)
      have hg := heap_alloc_new w2 (.cells (winC R) 25)
      have nHB := Lib.hid (HB.out.alloc HB.out.size (.cells (winC R) 25))
      rw [← hV2] at ha hg nHB
      obtain ⟨g8, hg8⟩ : ∃ g, g = w2.heap.size := ⟨_, rfl⟩
      rw [← hg8] at hg
      have HXG8 := Lib.hid hg8
      have G8 := Lib.hid hg
      have HV := Lib.hid hV2
      clear ha hg hV2 hg8
      clear HB 
      have HB := nHB
      clear nHB 
      have LEG8 := Lib.hid (show W.heap.size ≤ g8 from by rw [HXG8.out]; exact LB.out)
      clear LB
      go_upto_region 5 with (refine storeW _ (.tmp 8) (.tmp 27) _ R _ (heap_alloc_new _ _) rfl rfl rfl rfl rfl ?_; rw [setRowG_fold])
      rw [← HV.out]
      (try rw [← HXG8.out])
      clear HV HXG8
      go_wp2_with fail
      refine (C2.out _).mono ?_
      rintro e w3 ⟨rfl, hb⟩
      have nHB := Lib.hid (belG HB.out hb HB.out.size)
      have nG8 := Lib.hid (oldG G8.out hb (Nat.le_refl _))
      clear hb
      clear HB G8
      have HB := nHB
      have G8 := nG8
      clear nHB nG8
      go_wp2_with fail
      go_ret
      exact ⟨by first | rfl | (simp; done) | (simp; omega), HB.out⟩
    rw [decide_eq_true (fresh0.2 ⟨by omega, by unfold most; omega⟩)] at C2
    have HB := Lib.hid (Below.refl W.heap.size W)
    go_enter Try.func9, Try.ntmps9
    go_wp2_with fail
    refine (shown10_any _).mono ?_
    rintro e w1 ⟨rfl, hb⟩
    have nHB := Lib.hid (belG HB.out hb HB.out.size)
    clear hb
    clear HB 
    have HB := nHB
    clear nHB 
    go_wp2_with fail
    refine (C1.out _).mono ?_
    rintro e w2 ⟨rfl, hb⟩
    have nHB := Lib.hid (belG HB.out hb HB.out.size)
    clear hb
    clear HB 
    have HB := nHB
    clear nHB 
    have LB := Lib.hid HB.out.size
    obtain ⟨V2, hV2⟩ : ∃ V, V = w2.alloc (.cells (winC R) 25) := ⟨_, rfl⟩
    have ha := (Below.refl w2.heap.size w2).alloc (Nat.le_refl _) (.cells (winC R) 25)
    have hg := heap_alloc_new w2 (.cells (winC R) 25)
    have nHB := Lib.hid (HB.out.alloc HB.out.size (.cells (winC R) 25))
    rw [← hV2] at ha hg nHB
    obtain ⟨g8, hg8⟩ : ∃ g, g = w2.heap.size := ⟨_, rfl⟩
    rw [← hg8] at hg
    have HXG8 := Lib.hid hg8
    have G8 := Lib.hid hg
    have HV := Lib.hid hV2
    clear ha hg hV2 hg8
    clear HB 
    have HB := nHB
    clear nHB 
    have LEG8 := Lib.hid (show W.heap.size ≤ g8 from by rw [HXG8.out]; exact LB.out)
    clear LB
    go_upto_region 5 with (refine storeW _ (.tmp 8) (.tmp 27) _ R _ (heap_alloc_new _ _) rfl rfl rfl rfl rfl ?_; rw [setRowG_fold])
    rw [← HV.out]
    (try rw [← HXG8.out])
    clear HV HXG8
    go_wp2_with fail
    refine (C2.out _).mono ?_
    rintro e w3 ⟨rfl, hb⟩
    have nHB := Lib.hid (belG HB.out hb HB.out.size)
    have nG8 := Lib.hid (oldG G8.out hb (Nat.le_refl _))
    clear hb
    clear HB G8
    have HB := nHB
    have G8 := nG8
    clear nHB nG8
    go_wp2_with fail
    go_ret
    exact ⟨by first | rfl | (simp; done) | (simp; omega), HB.out⟩
  have fa : FreshW wn0 n := fresh0.2 ⟨by omega, by unfold most; omega⟩
  rw [markR_ok fa] at C1
  simp only at C1
  have H3 := Lib.hid (mark_fresh fa o)
  have C3 := Lib.hid (fun w => wFresh_any (markW wn0 n) (markW_64 _ _) (mark_right right0 fa) o ⟨o1, o2⟩ w)
  generalize markW wn0 n = R at *
  clear fa
  by_cases k1 : o < 0
  case pos =>
    rw [decide_eq_false (fun h => by have h9 := fresh0.1 h; unfold most at h9; omega)] at C2
    rw [decide_eq_false (fun h => by have h9 := fresh0.1 (H3.out.1 h).1; unfold most at h9; omega)] at C3
    have HB := Lib.hid (Below.refl W.heap.size W)
    go_enter Try.func9, Try.ntmps9
    go_wp2_with fail
    refine (shown10_any _).mono ?_
    rintro e w1 ⟨rfl, hb⟩
    have nHB := Lib.hid (belG HB.out hb HB.out.size)
    clear hb
    clear HB 
    have HB := nHB
    clear nHB 
    go_wp2_with fail
    refine (C1.out _).mono ?_
    rintro e w2 ⟨rfl, hb⟩
    have nHB := Lib.hid (belG HB.out hb HB.out.size)
    clear hb
    clear HB 
    have HB := nHB
    clear nHB 
    have LB := Lib.hid HB.out.size
    obtain ⟨V2, hV2⟩ : ∃ V, V = w2.alloc (.cells (winC R) 25) := ⟨_, rfl⟩
    have ha := (Below.refl w2.heap.size w2).alloc (Nat.le_refl _) (.cells (winC R) 25)
    have hg := heap_alloc_new w2 (.cells (winC R) 25)
    have nHB := Lib.hid (HB.out.alloc HB.out.size (.cells (winC R) 25))
    rw [← hV2] at ha hg nHB
    obtain ⟨g8, hg8⟩ : ∃ g, g = w2.heap.size := ⟨_, rfl⟩
    rw [← hg8] at hg
    have HXG8 := Lib.hid hg8
    have G8 := Lib.hid hg
    have HV := Lib.hid hV2
    clear ha hg hV2 hg8
    clear HB 
    have HB := nHB
    clear nHB 
    have LEG8 := Lib.hid (show W.heap.size ≤ g8 from by rw [HXG8.out]; exact LB.out)
    clear LB
    go_upto_region 5 with (refine storeW _ (.tmp 8) (.tmp 27) _ R _ (heap_alloc_new _ _) rfl rfl rfl rfl rfl ?_; rw [setRowG_fold])
    rw [← HV.out]
    (try rw [← HXG8.out])
    clear HV HXG8
    go_wp2_with fail
    refine (C2.out _).mono ?_
    rintro e w3 ⟨rfl, hb⟩
    have nHB := Lib.hid (belG HB.out hb HB.out.size)
    have nG8 := Lib.hid (oldG G8.out hb (Nat.le_refl _))
    clear hb
    clear HB G8
    have HB := nHB
    have G8 := nG8
    clear nHB nG8
    go_wp2_with (first | (refine loadW _ (.tmp 8) g8 R G8.out rfl rfl rfl ?_))
    refine (C3.out _).mono ?_
    rintro e w4 ⟨rfl, hb⟩
    have nHB := Lib.hid (belG HB.out hb HB.out.size)
    have nG8 := Lib.hid (oldG G8.out hb (Nat.le_refl _))
    clear hb
    clear HB G8
    have HB := nHB
    have G8 := nG8
    clear nHB nG8
    go_wp2_with fail
    go_ret
    exact ⟨by first | rfl | (simp; done) | (simp; omega), HB.out⟩
  by_cases k2 : 4611686018427387904 < o
  case pos =>
    rw [decide_eq_false (fun h => by have h9 := fresh0.1 h; unfold most at h9; omega)] at C2
    rw [decide_eq_false (fun h => by have h9 := fresh0.1 (H3.out.1 h).1; unfold most at h9; omega)] at C3
    have HB := Lib.hid (Below.refl W.heap.size W)
    go_enter Try.func9, Try.ntmps9
    go_wp2_with fail
    refine (shown10_any _).mono ?_
    rintro e w1 ⟨rfl, hb⟩
    have nHB := Lib.hid (belG HB.out hb HB.out.size)
    clear hb
    clear HB 
    have HB := nHB
    clear nHB 
    go_wp2_with fail
    refine (C1.out _).mono ?_
    rintro e w2 ⟨rfl, hb⟩
    have nHB := Lib.hid (belG HB.out hb HB.out.size)
    clear hb
    clear HB 
    have HB := nHB
    clear nHB 
    have LB := Lib.hid HB.out.size
    obtain ⟨V2, hV2⟩ : ∃ V, V = w2.alloc (.cells (winC R) 25) := ⟨_, rfl⟩
    have ha := (Below.refl w2.heap.size w2).alloc (Nat.le_refl _) (.cells (winC R) 25)
    have hg := heap_alloc_new w2 (.cells (winC R) 25)
    have nHB := Lib.hid (HB.out.alloc HB.out.size (.cells (winC R) 25))
    rw [← hV2] at ha hg nHB
    obtain ⟨g8, hg8⟩ : ∃ g, g = w2.heap.size := ⟨_, rfl⟩
    rw [← hg8] at hg
    have HXG8 := Lib.hid hg8
    have G8 := Lib.hid hg
    have HV := Lib.hid hV2
    clear ha hg hV2 hg8
    clear HB 
    have HB := nHB
    clear nHB 
    have LEG8 := Lib.hid (show W.heap.size ≤ g8 from by rw [HXG8.out]; exact LB.out)
    clear LB
    go_upto_region 5 with (refine storeW _ (.tmp 8) (.tmp 27) _ R _ (heap_alloc_new _ _) rfl rfl rfl rfl rfl ?_; rw [setRowG_fold])
    rw [← HV.out]
    (try rw [← HXG8.out])
    clear HV HXG8
    go_wp2_with fail
    refine (C2.out _).mono ?_
    rintro e w3 ⟨rfl, hb⟩
    have nHB := Lib.hid (belG HB.out hb HB.out.size)
    have nG8 := Lib.hid (oldG G8.out hb (Nat.le_refl _))
    clear hb
    clear HB G8
    have HB := nHB
    have G8 := nG8
    clear nHB nG8
    go_wp2_with (first | (refine loadW _ (.tmp 8) g8 R G8.out rfl rfl rfl ?_))
    refine (C3.out _).mono ?_
    rintro e w4 ⟨rfl, hb⟩
    have nHB := Lib.hid (belG HB.out hb HB.out.size)
    have nG8 := Lib.hid (oldG G8.out hb (Nat.le_refl _))
    clear hb
    clear HB G8
    have HB := nHB
    have G8 := nG8
    clear nHB nG8
    go_wp2_with fail
    go_ret
    exact ⟨by first | rfl | (simp; done) | (simp; omega), HB.out⟩
  rw [decide_eq_true (fresh0.2 ⟨by omega, by unfold most; omega⟩)] at C2
  by_cases k3 : o = n
  case pos =>
    rw [decide_eq_false (fun h => (H3.out.1 h).2.1 k3)] at C3
    subst k3
    have HB := Lib.hid (Below.refl W.heap.size W)
    go_enter Try.func9, Try.ntmps9
    go_wp2_with fail
    refine (shown10_any _).mono ?_
    rintro e w1 ⟨rfl, hb⟩
    have nHB := Lib.hid (belG HB.out hb HB.out.size)
    clear hb
    clear HB 
    have HB := nHB
    clear nHB 
    go_wp2_with fail
    refine (C1.out _).mono ?_
    rintro e w2 ⟨rfl, hb⟩
    have nHB := Lib.hid (belG HB.out hb HB.out.size)
    clear hb
    clear HB 
    have HB := nHB
    clear nHB 
    have LB := Lib.hid HB.out.size
    obtain ⟨V2, hV2⟩ : ∃ V, V = w2.alloc (.cells (winC R) 25) := ⟨_, rfl⟩
    have ha := (Below.refl w2.heap.size w2).alloc (Nat.le_refl _) (.cells (winC R) 25)
    have hg := heap_alloc_new w2 (.cells (winC R) 25)
    have nHB := Lib.hid (HB.out.alloc HB.out.size (.cells (winC R) 25))
    rw [← hV2] at ha hg nHB
    obtain ⟨g8, hg8⟩ : ∃ g, g = w2.heap.size := ⟨_, rfl⟩
    rw [← hg8] at hg
    have HXG8 := Lib.hid hg8
    have G8 := Lib.hid hg
    have HV := Lib.hid hV2
    clear ha hg hV2 hg8
    clear HB 
    have HB := nHB
    clear nHB 
    have LEG8 := Lib.hid (show W.heap.size ≤ g8 from by rw [HXG8.out]; exact LB.out)
    clear LB
    go_upto_region 5 with (refine storeW _ (.tmp 8) (.tmp 27) _ R _ (heap_alloc_new _ _) rfl rfl rfl rfl rfl ?_; rw [setRowG_fold])
    rw [← HV.out]
    (try rw [← HXG8.out])
    clear HV HXG8
    go_wp2_with fail
    refine (C2.out _).mono ?_
    rintro e w3 ⟨rfl, hb⟩
    have nHB := Lib.hid (belG HB.out hb HB.out.size)
    have nG8 := Lib.hid (oldG G8.out hb (Nat.le_refl _))
    clear hb
    clear HB G8
    have HB := nHB
    have G8 := nG8
    clear nHB nG8
    go_wp2_with (first | (refine loadW _ (.tmp 8) g8 R G8.out rfl rfl rfl ?_))
    refine (C3.out _).mono ?_
    rintro e w4 ⟨rfl, hb⟩
    have nHB := Lib.hid (belG HB.out hb HB.out.size)
    have nG8 := Lib.hid (oldG G8.out hb (Nat.le_refl _))
    clear hb
    clear HB G8
    have HB := nHB
    have G8 := nG8
    clear nHB nG8
    go_wp2_with fail
    go_ret
    exact ⟨by first | rfl | (simp; done) | (simp; omega), HB.out⟩
  by_cases k4 : n - 1024 < o
  case neg =>
    rw [decide_eq_false (fun h => k4 (H3.out.1 h).2.2)] at C3
    have k5 : (o == n) = false := beq_eq_false_iff_ne.2 k3
    have HB := Lib.hid (Below.refl W.heap.size W)
    go_enter Try.func9, Try.ntmps9
    go_wp2_with fail
    refine (shown10_any _).mono ?_
    rintro e w1 ⟨rfl, hb⟩
    have nHB := Lib.hid (belG HB.out hb HB.out.size)
    clear hb
    clear HB 
    have HB := nHB
    clear nHB 
    go_wp2_with fail
    refine (C1.out _).mono ?_
    rintro e w2 ⟨rfl, hb⟩
    have nHB := Lib.hid (belG HB.out hb HB.out.size)
    clear hb
    clear HB 
    have HB := nHB
    clear nHB 
    have LB := Lib.hid HB.out.size
    obtain ⟨V2, hV2⟩ : ∃ V, V = w2.alloc (.cells (winC R) 25) := ⟨_, rfl⟩
    have ha := (Below.refl w2.heap.size w2).alloc (Nat.le_refl _) (.cells (winC R) 25)
    have hg := heap_alloc_new w2 (.cells (winC R) 25)
    have nHB := Lib.hid (HB.out.alloc HB.out.size (.cells (winC R) 25))
    rw [← hV2] at ha hg nHB
    obtain ⟨g8, hg8⟩ : ∃ g, g = w2.heap.size := ⟨_, rfl⟩
    rw [← hg8] at hg
    have HXG8 := Lib.hid hg8
    have G8 := Lib.hid hg
    have HV := Lib.hid hV2
    clear ha hg hV2 hg8
    clear HB 
    have HB := nHB
    clear nHB 
    have LEG8 := Lib.hid (show W.heap.size ≤ g8 from by rw [HXG8.out]; exact LB.out)
    clear LB
    go_upto_region 5 with (refine storeW _ (.tmp 8) (.tmp 27) _ R _ (heap_alloc_new _ _) rfl rfl rfl rfl rfl ?_; rw [setRowG_fold])
    rw [← HV.out]
    (try rw [← HXG8.out])
    clear HV HXG8
    go_wp2_with fail
    refine (C2.out _).mono ?_
    rintro e w3 ⟨rfl, hb⟩
    have nHB := Lib.hid (belG HB.out hb HB.out.size)
    have nG8 := Lib.hid (oldG G8.out hb (Nat.le_refl _))
    clear hb
    clear HB G8
    have HB := nHB
    have G8 := nG8
    clear nHB nG8
    go_wp2_with (first | (refine loadW _ (.tmp 8) g8 R G8.out rfl rfl rfl ?_))
    refine (C3.out _).mono ?_
    rintro e w4 ⟨rfl, hb⟩
    have nHB := Lib.hid (belG HB.out hb HB.out.size)
    have nG8 := Lib.hid (oldG G8.out hb (Nat.le_refl _))
    clear hb
    clear HB G8
    have HB := nHB
    have G8 := nG8
    clear nHB nG8
    go_wp2_with fail
    go_ret
    exact ⟨by first | rfl | (simp; done) | (simp; omega), HB.out⟩
  rw [decide_eq_true (H3.out.2 ⟨fresh0.2 ⟨by omega, by unfold most; omega⟩, k3, k4⟩)] at C3
  have k5 : (o == n) = false := beq_eq_false_iff_ne.2 k3
  have HB := Lib.hid (Below.refl W.heap.size W)
  go_enter Try.func9, Try.ntmps9
  go_wp2_with fail
  refine (shown10_any _).mono ?_
  rintro e w1 ⟨rfl, hb⟩
  have nHB := Lib.hid (belG HB.out hb HB.out.size)
  clear hb
  clear HB 
  have HB := nHB
  clear nHB 
  go_wp2_with fail
  refine (C1.out _).mono ?_
  rintro e w2 ⟨rfl, hb⟩
  have nHB := Lib.hid (belG HB.out hb HB.out.size)
  clear hb
  clear HB 
  have HB := nHB
  clear nHB 
  have LB := Lib.hid HB.out.size
  obtain ⟨V2, hV2⟩ : ∃ V, V = w2.alloc (.cells (winC R) 25) := ⟨_, rfl⟩
  have ha := (Below.refl w2.heap.size w2).alloc (Nat.le_refl _) (.cells (winC R) 25)
  have hg := heap_alloc_new w2 (.cells (winC R) 25)
  have nHB := Lib.hid (HB.out.alloc HB.out.size (.cells (winC R) 25))
  rw [← hV2] at ha hg nHB
  obtain ⟨g8, hg8⟩ : ∃ g, g = w2.heap.size := ⟨_, rfl⟩
  rw [← hg8] at hg
  have HXG8 := Lib.hid hg8
  have G8 := Lib.hid hg
  have HV := Lib.hid hV2
  clear ha hg hV2 hg8
  clear HB 
  have HB := nHB
  clear nHB 
  have LEG8 := Lib.hid (show W.heap.size ≤ g8 from by rw [HXG8.out]; exact LB.out)
  clear LB
  go_upto_region 5 with (refine storeW _ (.tmp 8) (.tmp 27) _ R _ (heap_alloc_new _ _) rfl rfl rfl rfl rfl ?_; rw [setRowG_fold])
  rw [← HV.out]
  (try rw [← HXG8.out])
  clear HV HXG8
  go_wp2_with fail
  refine (C2.out _).mono ?_
  rintro e w3 ⟨rfl, hb⟩
  have nHB := Lib.hid (belG HB.out hb HB.out.size)
  have nG8 := Lib.hid (oldG G8.out hb (Nat.le_refl _))
  clear hb
  clear HB G8
  have HB := nHB
  have G8 := nG8
  clear nHB nG8
  go_wp2_with (first | (refine loadW _ (.tmp 8) g8 R G8.out rfl rfl rfl ?_))
  refine (C3.out _).mono ?_
  rintro e w4 ⟨rfl, hb⟩
  have nHB := Lib.hid (belG HB.out hb HB.out.size)
  have nG8 := Lib.hid (oldG G8.out hb (Nat.le_refl _))
  clear hb
  clear HB G8
  have HB := nHB
  have G8 := nG8
  clear nHB nG8
  go_wp2_with fail
  go_ret
  exact ⟨by first | rfl | (simp; done) | (simp; omega), HB.out⟩
end Go.Proofs.Ytdnfggjklblpnaa
