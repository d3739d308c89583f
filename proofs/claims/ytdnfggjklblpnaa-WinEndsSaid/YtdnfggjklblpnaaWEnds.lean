
/- WinEnds' walk. -/
import Derived.Test.YtdnfggjklblpnaaJ07
import Derived.Test.YtdnfggjklblpnaaJ06
namespace Go.Proofs.Ytdnfggjklblpnaa
open Go.RowKit

set_option maxRecDepth 100000 in
set_option maxHeartbeats 4000000 in
theorem winEnds_walk (a : Wn) (p : Nat) (W : World) (h64 : W64 a) (ht : B64w a.top) (hp : p ≤ 65535) :
    Calls Try.prog 8 #[.agg (winC a), .int .u16 (p : Int)] W fun e W' => e = .returned (.bool true) ∧ Below W.heap.size W W' := by
  have CR := Lib.hid (fun w => right10_any a h64 w)
  obtain ⟨t, htt⟩ : ∃ t, t = a.top := ⟨_, rfl⟩
  have HT := Lib.hid htt
  have HC := Lib.hid (show (winC a)[0]? = some (.int .i64 t) from by rw [htt]; exact winC_top a)
  rw [← htt] at ht
  obtain ⟨ht1, ht2⟩ := ht
  by_cases hR : RightW a
  case neg =>
    rw [decide_eq_false hR] at CR
    clear h64 hR htt
    obtain ⟨V0, C, hC, hV, hb, hg⟩ := boxW1 W a
    have HB := Lib.hid hb
    have G0 := Lib.hid hg
    have HV := Lib.hid hV
    rw [← hC]
    clear hb hg hV hC
    go_enter Try.func8, Try.ntmps8
    go_upto_region 1 with (fail)
    rw [← HV.out]
    clear HV
    go_wp2_with fail
    refine (shown10_any _).mono ?_
    rintro e w1 ⟨rfl, hb⟩
    have nHB := Lib.hid (belG HB.out hb HB.out.size)
    have nG0 := Lib.hid (oldG G0.out hb (Nat.le_refl _))
    clear hb
    clear HB G0
    have HB := nHB
    have G0 := nG0
    clear nHB nG0
    go_wp2_with (first | (refine loadW _ (.tmp 2) W.heap.size a G0.out rfl rfl rfl ?_))
    refine (CR.out _).mono ?_
    rintro e w2 ⟨rfl, hb⟩
    have nHB := Lib.hid (belG HB.out hb HB.out.size)
    have nG0 := Lib.hid (oldG G0.out hb (Nat.le_refl _))
    clear hb
    clear HB G0
    have HB := nHB
    have G0 := nG0
    clear nHB nG0
    go_wp2_with (first | (refine loadW _ (.tmp 2) W.heap.size a G0.out rfl rfl rfl ?_))
    go_ret
    exact ⟨rfl, HB.out⟩
  rw [decide_eq_true hR] at CR
  have hr1 := hR.1
  rw [← htt] at hr1
  by_cases hbig : 4611686018427382904 < t
  case pos =>
    clear h64 hR htt
    obtain ⟨V0, C, hC, hV, hb, hg⟩ := boxW1 W a
    have HB := Lib.hid hb
    have G0 := Lib.hid hg
    have HV := Lib.hid hV
    rw [← hC]
    clear hb hg hV hC
    go_enter Try.func8, Try.ntmps8
    go_upto_region 1 with (fail)
    rw [← HV.out]
    clear HV
    go_wp2_with fail
    refine (shown10_any _).mono ?_
    rintro e w1 ⟨rfl, hb⟩
    have nHB := Lib.hid (belG HB.out hb HB.out.size)
    have nG0 := Lib.hid (oldG G0.out hb (Nat.le_refl _))
    clear hb
    clear HB G0
    have HB := nHB
    have G0 := nG0
    clear nHB nG0
    go_wp2_with (first | (refine loadW _ (.tmp 2) W.heap.size a G0.out rfl rfl rfl ?_))
    refine (CR.out _).mono ?_
    rintro e w2 ⟨rfl, hb⟩
    have nHB := Lib.hid (belG HB.out hb HB.out.size)
    have nG0 := Lib.hid (oldG G0.out hb (Nat.le_refl _))
    clear hb
    clear HB G0
    have HB := nHB
    have G0 := nG0
    clear nHB nG0
    have x0 := BoxW.cell G0.out HC.out
    go_wp2_with (first | (refine loadW _ (.tmp 2) W.heap.size a G0.out rfl rfl rfl ?_))
    go_ret
    exact ⟨rfl, HB.out⟩
  obtain ⟨k, hk⟩ : ∃ k, k = p % 3000 := ⟨_, rfl⟩
  have i2 : (p : Int) % 3000 = (k : Int) := by omega
  have i3 : (p : Int).tmod 3000 = (k : Int) := by rw [Int.tmod_eq_emod_of_nonneg (by omega)]; exact i2
  have hkb : k < 3000 := by omega
  obtain ⟨M, hM⟩ : ∃ M, M = 4611686018427387904 - k := ⟨_, rfl⟩
  have i4 : (4611686018427387904 : Int) - (k : Int) = (M : Int) := by omega
  have fa : FreshW a 4611686018427387904 := fresh_top hR (by rw [← htt]; omega) (by unfold most; omega)
  have n1 : ¬ FreshW (markW a 4611686018427387904) 4611686018427387904 := fun h => ((mark_fresh fa _).1 h).2.1 rfl
  have r1 := mark_right hR fa
  have t1 : (markW a 4611686018427387904).top = 4611686018427387905 := mark_top (by rw [← htt]; omega)
  have HC1 := Lib.hid (show (winC (markW a 4611686018427387904))[0]? = some (.int .i64 4611686018427387905) from by rw [← t1]; exact winC_top _)
  have fk : FreshW (markW a 4611686018427387904) (M : Int) ↔ (0 < k ∧ k < 1024) := by
    rw [mark_fresh fa]
    exact ⟨fun h => ⟨by have := h.2.1; omega, by have := h.2.2; omega⟩, fun h => ⟨fresh_top hR (by rw [← htt]; omega) (by unfold most; omega), by omega, by omega⟩⟩
  have CF := Lib.hid (fun w => wFresh_any (markW a 4611686018427387904) (markW_64 _ _) r1 (M : Int) (by unfold B64w; omega) w)
  have C1 := Lib.hid (fun (w : World) => (show Calls Try.prog 15 #[.agg (winC a), .int .i64 4611686018427387904] w fun e W' => e = .returned (.tuple #[.agg (winC (markW a 4611686018427387904)), .int .i64 0]) ∧ Below w.heap.size w W' from by
    have h := wMark_any a h64 hR 4611686018427387904 (b64w_lit rfl) w
    unfold AnsWn at h
    rw [markR_ok fa] at h
    exact h))
  have C2 := Lib.hid (fun (w : World) => (show Calls Try.prog 15 #[.agg (winC (markW a 4611686018427387904)), .int .i64 4611686018427387904] w fun e W' => e = .returned (.tuple #[.agg (winC (markW a 4611686018427387904)), .int .i64 6]) ∧ Below w.heap.size w W' from by
    have h := wMark_any _ (markW_64 _ _) r1 4611686018427387904 (b64w_lit rfl) w
    unfold AnsWn at h
    rw [markR_old ⟨by omega, by unfold most; omega⟩ n1] at h
    exact h))
  have C3 := Lib.hid (fun (w : World) => (show Calls Try.prog 15 #[.agg (winC (markW a 4611686018427387904)), .int .i64 4611686018427387905] w fun e W' => e = .returned (.tuple #[.agg (winC (markW a 4611686018427387904)), .int .i64 1]) ∧ Below w.heap.size w W' from by
    have h := wMark_any _ (markW_64 _ _) r1 4611686018427387905 (b64w_lit rfl) w
    unfold AnsWn at h
    rw [markR_arg (fun h => by have := h.2; unfold most at this; omega)] at h
    exact h))
  have HFK := Lib.hid fk
  generalize markW a 4611686018427387904 = x at *
  clear h64 hR htt fa n1 r1 t1 fk ht1 ht2 hM
  by_cases h0 : 0 < k
  · have j0 : (0 : Int) < (k : Int) := by omega
    by_cases h1 : k < 1024
    · have j1 : (k : Int) < 1024 := by omega
      rw [decide_eq_true (HFK.out.2 ⟨h0, h1⟩)] at CF
      clear hk h0 h1
      obtain ⟨V0, C, hC, hV, hb, hg⟩ := boxW1 W a
      have HB := Lib.hid hb
      have G0 := Lib.hid hg
      have HV := Lib.hid hV
      rw [← hC]
      clear hb hg hV hC
      go_enter Try.func8, Try.ntmps8
      go_upto_region 1 with (fail)
      rw [← HV.out]
      clear HV
      go_wp2_with fail
      refine (shown10_any _).mono ?_
      rintro e w1 ⟨rfl, hb⟩
      have nHB := Lib.hid (belG HB.out hb HB.out.size)
      have nG0 := Lib.hid (oldG G0.out hb (Nat.le_refl _))
      clear hb
      clear HB G0
      have HB := nHB
      have G0 := nG0
      clear nHB nG0
      go_wp2_with (first | (refine loadW _ (.tmp 2) W.heap.size a G0.out rfl rfl rfl ?_))
      refine (CR.out _).mono ?_
      rintro e w2 ⟨rfl, hb⟩
      have nHB := Lib.hid (belG HB.out hb HB.out.size)
      have nG0 := Lib.hid (oldG G0.out hb (Nat.le_refl _))
      clear hb
      clear HB G0
      have HB := nHB
      have G0 := nG0
      clear nHB nG0
      have x0 := BoxW.cell G0.out HC.out
      go_wp2_with (first | (refine loadW _ (.tmp 2) W.heap.size a G0.out rfl rfl rfl ?_))
      clear x0
      refine (C1.out _).mono ?_
      rintro e w3 ⟨rfl, hb⟩
      have nHB := Lib.hid (belG HB.out hb HB.out.size)
      have nG0 := Lib.hid (oldG G0.out hb (Nat.le_refl _))
      clear hb
      clear HB G0
      have HB := nHB
      have G0 := nG0
      clear nHB nG0
      have LB := Lib.hid HB.out.size
      have LTG0 := Lib.hid (show W.heap.size < w3.heap.size from (Array.getElem?_eq_some_iff.1 G0.out).1)
      obtain ⟨V3, hV3⟩ : ∃ V, V = w3.alloc (.cells (winC x) 25) := ⟨_, rfl⟩
      have ha := (Below.refl w3.heap.size w3).alloc (Nat.le_refl _) (.cells (winC x) 25)
      have hg := heap_alloc_new w3 (.cells (winC x) 25)
      have nHB := Lib.hid (HB.out.alloc HB.out.size (.cells (winC x) 25))
      rw [← hV3] at ha hg nHB
      have nG0 := Lib.hid (oldG G0.out ha (Nat.le_refl _))
      obtain ⟨g6, hg6⟩ : ∃ g, g = w3.heap.size := ⟨_, rfl⟩
      rw [← hg6] at hg
      have HXG6 := Lib.hid hg6
      have G6 := Lib.hid hg
      have HV := Lib.hid hV3
      clear ha hg hV3 hg6
      clear HB G0
      have HB := nHB
      have G0 := nG0
      clear nHB nG0
      have LEG6 := Lib.hid (show W.heap.size ≤ g6 from by rw [HXG6.out]; exact LB.out)
      have NEG0G6 := Lib.hid (show W.heap.size ≠ g6 from by have h1 := LTG0.out; rw [HXG6.out]; omega)
      have NEG6G0 := Lib.hid (NEG0G6.out.symm)
      clear LB LTG0
      go_upto_region 5 with (refine storeW _ (.tmp 6) (.tmp 26) _ x _ (heap_alloc_new _ _) rfl rfl rfl rfl rfl ?_; rw [setRowG_fold])
      rw [← HV.out]
      (try rw [← HXG6.out])
      clear HV HXG6
      go_wp2_with (first | (refine loadW _ (.tmp 2) W.heap.size a G0.out rfl rfl rfl ?_) | (refine loadW _ (.tmp 6) g6 x G6.out rfl rfl rfl ?_))
      refine (C2.out _).mono ?_
      rintro e w4 ⟨rfl, hb⟩
      have nHB := Lib.hid (belG HB.out hb HB.out.size)
      have nG0 := Lib.hid (oldG G0.out hb (Nat.le_refl _))
      have nG6 := Lib.hid (oldG G6.out hb (Nat.le_refl _))
      clear hb
      clear HB G0 G6
      have HB := nHB
      have G0 := nG0
      have G6 := nG6
      clear nHB nG0 nG6
      have LB := Lib.hid HB.out.size
      have LTG0 := Lib.hid (show W.heap.size < w4.heap.size from (Array.getElem?_eq_some_iff.1 G0.out).1)
      have LTG6 := Lib.hid (show g6 < w4.heap.size from (Array.getElem?_eq_some_iff.1 G6.out).1)
      obtain ⟨V4, hV4⟩ : ∃ V, V = w4.alloc (.cells (winC x) 25) := ⟨_, rfl⟩
      have ha := (Below.refl w4.heap.size w4).alloc (Nat.le_refl _) (.cells (winC x) 25)
      have hg := heap_alloc_new w4 (.cells (winC x) 25)
      have nHB := Lib.hid (HB.out.alloc HB.out.size (.cells (winC x) 25))
      rw [← hV4] at ha hg nHB
      have nG0 := Lib.hid (oldG G0.out ha (Nat.le_refl _))
      have nG6 := Lib.hid (oldG G6.out ha (Nat.le_refl _))
      obtain ⟨g8, hg8⟩ : ∃ g, g = w4.heap.size := ⟨_, rfl⟩
      rw [← hg8] at hg
      have HXG8 := Lib.hid hg8
      have G8 := Lib.hid hg
      have HV := Lib.hid hV4
      clear ha hg hV4 hg8
      clear HB G0 G6
      have HB := nHB
      have G0 := nG0
      have G6 := nG6
      clear nHB nG0 nG6
      have LEG8 := Lib.hid (show W.heap.size ≤ g8 from by rw [HXG8.out]; exact LB.out)
      have NEG0G8 := Lib.hid (show W.heap.size ≠ g8 from by have h1 := LTG0.out; rw [HXG8.out]; omega)
      have NEG8G0 := Lib.hid (NEG0G8.out.symm)
      have NEG6G8 := Lib.hid (show g6 ≠ g8 from by have h1 := LTG6.out; rw [HXG8.out]; omega)
      have NEG8G6 := Lib.hid (NEG6G8.out.symm)
      clear LB LTG0 LTG6
      go_upto_region 6 with (refine storeW _ (.tmp 8) (.tmp 31) _ x _ (heap_alloc_new _ _) rfl rfl rfl rfl rfl ?_; rw [setRowG_fold])
      rw [← HV.out]
      (try rw [← HXG8.out])
      clear HV HXG8
      go_wp2_with (first | (refine loadW _ (.tmp 2) W.heap.size a G0.out rfl rfl rfl ?_) | (refine loadW _ (.tmp 6) g6 x G6.out rfl rfl rfl ?_) | (refine loadW _ (.tmp 8) g8 x G8.out rfl rfl rfl ?_))
      refine (C3.out _).mono ?_
      rintro e w5 ⟨rfl, hb⟩
      have nHB := Lib.hid (belG HB.out hb HB.out.size)
      have nG0 := Lib.hid (oldG G0.out hb (Nat.le_refl _))
      have nG6 := Lib.hid (oldG G6.out hb (Nat.le_refl _))
      have nG8 := Lib.hid (oldG G8.out hb (Nat.le_refl _))
      clear hb
      clear HB G0 G6 G8
      have HB := nHB
      have G0 := nG0
      have G6 := nG6
      have G8 := nG8
      clear nHB nG0 nG6 nG8
      have LB := Lib.hid HB.out.size
      have LTG0 := Lib.hid (show W.heap.size < w5.heap.size from (Array.getElem?_eq_some_iff.1 G0.out).1)
      have LTG6 := Lib.hid (show g6 < w5.heap.size from (Array.getElem?_eq_some_iff.1 G6.out).1)
      have LTG8 := Lib.hid (show g8 < w5.heap.size from (Array.getElem?_eq_some_iff.1 G8.out).1)
      obtain ⟨V5, hV5⟩ : ∃ V, V = w5.alloc (.cells (winC x) 25) := ⟨_, rfl⟩
      have ha := (Below.refl w5.heap.size w5).alloc (Nat.le_refl _) (.cells (winC x) 25)
      have hg := heap_alloc_new w5 (.cells (winC x) 25)
      have nHB := Lib.hid (HB.out.alloc HB.out.size (.cells (winC x) 25))
      rw [← hV5] at ha hg nHB
      have nG0 := Lib.hid (oldG G0.out ha (Nat.le_refl _))
      have nG6 := Lib.hid (oldG G6.out ha (Nat.le_refl _))
      have nG8 := Lib.hid (oldG G8.out ha (Nat.le_refl _))
      obtain ⟨g10, hg10⟩ : ∃ g, g = w5.heap.size := ⟨_, rfl⟩
      rw [← hg10] at hg
      have HXG10 := Lib.hid hg10
      have G10 := Lib.hid hg
      have HV := Lib.hid hV5
      clear ha hg hV5 hg10
      clear HB G0 G6 G8
      have HB := nHB
      have G0 := nG0
      have G6 := nG6
      have G8 := nG8
      clear nHB nG0 nG6 nG8
      have LEG10 := Lib.hid (show W.heap.size ≤ g10 from by rw [HXG10.out]; exact LB.out)
      have NEG0G10 := Lib.hid (show W.heap.size ≠ g10 from by have h1 := LTG0.out; rw [HXG10.out]; omega)
      have NEG10G0 := Lib.hid (NEG0G10.out.symm)
      have NEG6G10 := Lib.hid (show g6 ≠ g10 from by have h1 := LTG6.out; rw [HXG10.out]; omega)
      have NEG10G6 := Lib.hid (NEG6G10.out.symm)
      have NEG8G10 := Lib.hid (show g8 ≠ g10 from by have h1 := LTG8.out; rw [HXG10.out]; omega)
      have NEG10G8 := Lib.hid (NEG8G10.out.symm)
      clear LB LTG0 LTG6 LTG8
      go_upto_region 7 with (refine storeW _ (.tmp 10) (.tmp 36) _ x _ (heap_alloc_new _ _) rfl rfl rfl rfl rfl ?_; rw [setRowG_fold])
      rw [← HV.out]
      (try rw [← HXG10.out])
      clear HV HXG10
      have x0 := BoxW.cell G6.out HC1.out
      go_wp2_with (first | (refine loadW _ (.tmp 2) W.heap.size a G0.out rfl rfl rfl ?_) | (refine loadW _ (.tmp 6) g6 x G6.out rfl rfl rfl ?_) | (refine loadW _ (.tmp 8) g8 x G8.out rfl rfl rfl ?_) | (refine loadW _ (.tmp 10) g10 x G10.out rfl rfl rfl ?_))
      clear x0
      refine (CF.out _).mono ?_
      rintro e w6 ⟨rfl, hb⟩
      have nHB := Lib.hid (belG HB.out hb HB.out.size)
      have nG0 := Lib.hid (oldG G0.out hb (Nat.le_refl _))
      have nG6 := Lib.hid (oldG G6.out hb (Nat.le_refl _))
      have nG8 := Lib.hid (oldG G8.out hb (Nat.le_refl _))
      have nG10 := Lib.hid (oldG G10.out hb (Nat.le_refl _))
      clear hb
      clear HB G0 G6 G8 G10
      have HB := nHB
      have G0 := nG0
      have G6 := nG6
      have G8 := nG8
      have G10 := nG10
      clear nHB nG0 nG6 nG8 nG10
      go_wp2_with (first | (refine loadW _ (.tmp 2) W.heap.size a G0.out rfl rfl rfl ?_) | (refine loadW _ (.tmp 6) g6 x G6.out rfl rfl rfl ?_) | (refine loadW _ (.tmp 8) g8 x G8.out rfl rfl rfl ?_) | (refine loadW _ (.tmp 10) g10 x G10.out rfl rfl rfl ?_))
      go_ret
      exact ⟨by first | rfl | (simp; done) | (simp; omega), HB.out⟩
    · have j1 : ¬ (k : Int) < 1024 := by omega
      rw [decide_eq_false (fun h => h1 (HFK.out.1 h).2)] at CF
      clear hk h0 h1
      obtain ⟨V0, C, hC, hV, hb, hg⟩ := boxW1 W a
      have HB := Lib.hid hb
      have G0 := Lib.hid hg
      have HV := Lib.hid hV
      rw [← hC]
      clear hb hg hV hC
      go_enter Try.func8, Try.ntmps8
      go_upto_region 1 with (fail)
      rw [← HV.out]
      clear HV
      go_wp2_with fail
      refine (shown10_any _).mono ?_
      rintro e w1 ⟨rfl, hb⟩
      have nHB := Lib.hid (belG HB.out hb HB.out.size)
      have nG0 := Lib.hid (oldG G0.out hb (Nat.le_refl _))
      clear hb
      clear HB G0
      have HB := nHB
      have G0 := nG0
      clear nHB nG0
      go_wp2_with (first | (refine loadW _ (.tmp 2) W.heap.size a G0.out rfl rfl rfl ?_))
      refine (CR.out _).mono ?_
      rintro e w2 ⟨rfl, hb⟩
      have nHB := Lib.hid (belG HB.out hb HB.out.size)
      have nG0 := Lib.hid (oldG G0.out hb (Nat.le_refl _))
      clear hb
      clear HB G0
      have HB := nHB
      have G0 := nG0
      clear nHB nG0
      have x0 := BoxW.cell G0.out HC.out
      go_wp2_with (first | (refine loadW _ (.tmp 2) W.heap.size a G0.out rfl rfl rfl ?_))
      clear x0
      refine (C1.out _).mono ?_
      rintro e w3 ⟨rfl, hb⟩
      have nHB := Lib.hid (belG HB.out hb HB.out.size)
      have nG0 := Lib.hid (oldG G0.out hb (Nat.le_refl _))
      clear hb
      clear HB G0
      have HB := nHB
      have G0 := nG0
      clear nHB nG0
      have LB := Lib.hid HB.out.size
      have LTG0 := Lib.hid (show W.heap.size < w3.heap.size from (Array.getElem?_eq_some_iff.1 G0.out).1)
      obtain ⟨V3, hV3⟩ : ∃ V, V = w3.alloc (.cells (winC x) 25) := ⟨_, rfl⟩
      have ha := (Below.refl w3.heap.size w3).alloc (Nat.le_refl _) (.cells (winC x) 25)
      have hg := heap_alloc_new w3 (.cells (winC x) 25)
      have nHB := Lib.hid (HB.out.alloc HB.out.size (.cells (winC x) 25))
      rw [← hV3] at ha hg nHB
      have nG0 := Lib.hid (oldG G0.out ha (Nat.le_refl _))
      obtain ⟨g6, hg6⟩ : ∃ g, g = w3.heap.size := ⟨_, rfl⟩
      rw [← hg6] at hg
      have HXG6 := Lib.hid hg6
      have G6 := Lib.hid hg
      have HV := Lib.hid hV3
      clear ha hg hV3 hg6
      clear HB G0
      have HB := nHB
      have G0 := nG0
      clear nHB nG0
      have LEG6 := Lib.hid (show W.heap.size ≤ g6 from by rw [HXG6.out]; exact LB.out)
      have NEG0G6 := Lib.hid (show W.heap.size ≠ g6 from by have h1 := LTG0.out; rw [HXG6.out]; omega)
      have NEG6G0 := Lib.hid (NEG0G6.out.symm)
      clear LB LTG0
      go_upto_region 5 with (refine storeW _ (.tmp 6) (.tmp 26) _ x _ (heap_alloc_new _ _) rfl rfl rfl rfl rfl ?_; rw [setRowG_fold])
      rw [← HV.out]
      (try rw [← HXG6.out])
      clear HV HXG6
      go_wp2_with (first | (refine loadW _ (.tmp 2) W.heap.size a G0.out rfl rfl rfl ?_) | (refine loadW _ (.tmp 6) g6 x G6.out rfl rfl rfl ?_))
      refine (C2.out _).mono ?_
      rintro e w4 ⟨rfl, hb⟩
      have nHB := Lib.hid (belG HB.out hb HB.out.size)
      have nG0 := Lib.hid (oldG G0.out hb (Nat.le_refl _))
      have nG6 := Lib.hid (oldG G6.out hb (Nat.le_refl _))
      clear hb
      clear HB G0 G6
      have HB := nHB
      have G0 := nG0
      have G6 := nG6
      clear nHB nG0 nG6
      have LB := Lib.hid HB.out.size
      have LTG0 := Lib.hid (show W.heap.size < w4.heap.size from (Array.getElem?_eq_some_iff.1 G0.out).1)
      have LTG6 := Lib.hid (show g6 < w4.heap.size from (Array.getElem?_eq_some_iff.1 G6.out).1)
      obtain ⟨V4, hV4⟩ : ∃ V, V = w4.alloc (.cells (winC x) 25) := ⟨_, rfl⟩
      have ha := (Below.refl w4.heap.size w4).alloc (Nat.le_refl _) (.cells (winC x) 25)
      have hg := heap_alloc_new w4 (.cells (winC x) 25)
      have nHB := Lib.hid (HB.out.alloc HB.out.size (.cells (winC x) 25))
      rw [← hV4] at ha hg nHB
      have nG0 := Lib.hid (oldG G0.out ha (Nat.le_refl _))
      have nG6 := Lib.hid (oldG G6.out ha (Nat.le_refl _))
      obtain ⟨g8, hg8⟩ : ∃ g, g = w4.heap.size := ⟨_, rfl⟩
      rw [← hg8] at hg
      have HXG8 := Lib.hid hg8
      have G8 := Lib.hid hg
      have HV := Lib.hid hV4
      clear ha hg hV4 hg8
      clear HB G0 G6
      have HB := nHB
      have G0 := nG0
      have G6 := nG6
      clear nHB nG0 nG6
      have LEG8 := Lib.hid (show W.heap.size ≤ g8 from by rw [HXG8.out]; exact LB.out)
      have NEG0G8 := Lib.hid (show W.heap.size ≠ g8 from by have h1 := LTG0.out; rw [HXG8.out]; omega)
      have NEG8G0 := Lib.hid (NEG0G8.out.symm)
      have NEG6G8 := Lib.hid (show g6 ≠ g8 from by have h1 := LTG6.out; rw [HXG8.out]; omega)
      have NEG8G6 := Lib.hid (NEG6G8.out.symm)
      clear LB LTG0 LTG6
      go_upto_region 6 with (refine storeW _ (.tmp 8) (.tmp 31) _ x _ (heap_alloc_new _ _) rfl rfl rfl rfl rfl ?_; rw [setRowG_fold])
      rw [← HV.out]
      (try rw [← HXG8.out])
      clear HV HXG8
      go_wp2_with (first | (refine loadW _ (.tmp 2) W.heap.size a G0.out rfl rfl rfl ?_) | (refine loadW _ (.tmp 6) g6 x G6.out rfl rfl rfl ?_) | (refine loadW _ (.tmp 8) g8 x G8.out rfl rfl rfl ?_))
      refine (C3.out _).mono ?_
      rintro e w5 ⟨rfl, hb⟩
      have nHB := Lib.hid (belG HB.out hb HB.out.size)
      have nG0 := Lib.hid (oldG G0.out hb (Nat.le_refl _))
      have nG6 := Lib.hid (oldG G6.out hb (Nat.le_refl _))
      have nG8 := Lib.hid (oldG G8.out hb (Nat.le_refl _))
      clear hb
      clear HB G0 G6 G8
      have HB := nHB
      have G0 := nG0
      have G6 := nG6
      have G8 := nG8
      clear nHB nG0 nG6 nG8
      have LB := Lib.hid HB.out.size
      have LTG0 := Lib.hid (show W.heap.size < w5.heap.size from (Array.getElem?_eq_some_iff.1 G0.out).1)
      have LTG6 := Lib.hid (show g6 < w5.heap.size from (Array.getElem?_eq_some_iff.1 G6.out).1)
      have LTG8 := Lib.hid (show g8 < w5.heap.size from (Array.getElem?_eq_some_iff.1 G8.out).1)
      obtain ⟨V5, hV5⟩ : ∃ V, V = w5.alloc (.cells (winC x) 25) := ⟨_, rfl⟩
      have ha := (Below.refl w5.heap.size w5).alloc (Nat.le_refl _) (.cells (winC x) 25)
      have hg := heap_alloc_new w5 (.cells (winC x) 25)
      have nHB := Lib.hid (HB.out.alloc HB.out.size (.cells (winC x) 25))
      rw [← hV5] at ha hg nHB
      have nG0 := Lib.hid (oldG G0.out ha (Nat.le_refl _))
      have nG6 := Lib.hid (oldG G6.out ha (Nat.le_refl _))
      have nG8 := Lib.hid (oldG G8.out ha (Nat.le_refl _))
      obtain ⟨g10, hg10⟩ : ∃ g, g = w5.heap.size := ⟨_, rfl⟩
      rw [← hg10] at hg
      have HXG10 := Lib.hid hg10
      have G10 := Lib.hid hg
      have HV := Lib.hid hV5
      clear ha hg hV5 hg10
      clear HB G0 G6 G8
      have HB := nHB
      have G0 := nG0
      have G6 := nG6
      have G8 := nG8
      clear nHB nG0 nG6 nG8
      have LEG10 := Lib.hid (show W.heap.size ≤ g10 from by rw [HXG10.out]; exact LB.out)
      have NEG0G10 := Lib.hid (show W.heap.size ≠ g10 from by have h1 := LTG0.out; rw [HXG10.out]; omega)
      have NEG10G0 := Lib.hid (NEG0G10.out.symm)
      have NEG6G10 := Lib.hid (show g6 ≠ g10 from by have h1 := LTG6.out; rw [HXG10.out]; omega)
      have NEG10G6 := Lib.hid (NEG6G10.out.symm)
      have NEG8G10 := Lib.hid (show g8 ≠ g10 from by have h1 := LTG8.out; rw [HXG10.out]; omega)
      have NEG10G8 := Lib.hid (NEG8G10.out.symm)
      clear LB LTG0 LTG6 LTG8
      go_upto_region 7 with (refine storeW _ (.tmp 10) (.tmp 36) _ x _ (heap_alloc_new _ _) rfl rfl rfl rfl rfl ?_; rw [setRowG_fold])
      rw [← HV.out]
      (try rw [← HXG10.out])
      clear HV HXG10
      have x0 := BoxW.cell G6.out HC1.out
      go_wp2_with (first | (refine loadW _ (.tmp 2) W.heap.size a G0.out rfl rfl rfl ?_) | (refine loadW _ (.tmp 6) g6 x G6.out rfl rfl rfl ?_) | (refine loadW _ (.tmp 8) g8 x G8.out rfl rfl rfl ?_) | (refine loadW _ (.tmp 10) g10 x G10.out rfl rfl rfl ?_))
      clear x0
      refine (CF.out _).mono ?_
      rintro e w6 ⟨rfl, hb⟩
      have nHB := Lib.hid (belG HB.out hb HB.out.size)
      have nG0 := Lib.hid (oldG G0.out hb (Nat.le_refl _))
      have nG6 := Lib.hid (oldG G6.out hb (Nat.le_refl _))
      have nG8 := Lib.hid (oldG G8.out hb (Nat.le_refl _))
      have nG10 := Lib.hid (oldG G10.out hb (Nat.le_refl _))
      clear hb
      clear HB G0 G6 G8 G10
      have HB := nHB
      have G0 := nG0
      have G6 := nG6
      have G8 := nG8
      have G10 := nG10
      clear nHB nG0 nG6 nG8 nG10
      go_wp2_with (first | (refine loadW _ (.tmp 2) W.heap.size a G0.out rfl rfl rfl ?_) | (refine loadW _ (.tmp 6) g6 x G6.out rfl rfl rfl ?_) | (refine loadW _ (.tmp 8) g8 x G8.out rfl rfl rfl ?_) | (refine loadW _ (.tmp 10) g10 x G10.out rfl rfl rfl ?_))
      go_ret
      exact ⟨by first | rfl | (simp; done) | (simp; omega), HB.out⟩
  · have j0 : ¬ (0 : Int) < (k : Int) := by omega
    rw [decide_eq_false (fun h => h0 (HFK.out.1 h).1)] at CF
    clear hk h0
    obtain ⟨V0, C, hC, hV, hb, hg⟩ := boxW1 W a
    have HB := Lib.hid hb
    have G0 := Lib.hid hg
    have HV := Lib.hid hV
    rw [← hC]
    clear hb hg hV hC
    go_enter Try.func8, Try.ntmps8
    go_upto_region 1 with (fail)
    rw [← HV.out]
    clear HV
    go_wp2_with fail
    refine (shown10_any _).mono ?_
    rintro e w1 ⟨rfl, hb⟩
    have nHB := Lib.hid (belG HB.out hb HB.out.size)
    have nG0 := Lib.hid (oldG G0.out hb (Nat.le_refl _))
    clear hb
    clear HB G0
    have HB := nHB
    have G0 := nG0
    clear nHB nG0
    go_wp2_with (first | (refine loadW _ (.tmp 2) W.heap.size a G0.out rfl rfl rfl ?_))
    refine (CR.out _).mono ?_
    rintro e w2 ⟨rfl, hb⟩
    have nHB := Lib.hid (belG HB.out hb HB.out.size)
    have nG0 := Lib.hid (oldG G0.out hb (Nat.le_refl _))
    clear hb
    clear HB G0
    have HB := nHB
    have G0 := nG0
    clear nHB nG0
    have x0 := BoxW.cell G0.out HC.out
    go_wp2_with (first | (refine loadW _ (.tmp 2) W.heap.size a G0.out rfl rfl rfl ?_))
    clear x0
    refine (C1.out _).mono ?_
    rintro e w3 ⟨rfl, hb⟩
    have nHB := Lib.hid (belG HB.out hb HB.out.size)
    have nG0 := Lib.hid (oldG G0.out hb (Nat.le_refl _))
    clear hb
    clear HB G0
    have HB := nHB
    have G0 := nG0
    clear nHB nG0
    have LB := Lib.hid HB.out.size
    have LTG0 := Lib.hid (show W.heap.size < w3.heap.size from (Array.getElem?_eq_some_iff.1 G0.out).1)
    obtain ⟨V3, hV3⟩ : ∃ V, V = w3.alloc (.cells (winC x) 25) := ⟨_, rfl⟩
    have ha := (Below.refl w3.heap.size w3).alloc (Nat.le_refl _) (.cells (winC x) 25)
    have hg := heap_alloc_new w3 (.cells (winC x) 25)
    have nHB := Lib.hid (HB.out.alloc HB.out.size (.cells (winC x) 25))
    rw [← hV3] at ha hg nHB
    have nG0 := Lib.hid (oldG G0.out ha (Nat.le_refl _))
    obtain ⟨g6, hg6⟩ : ∃ g, g = w3.heap.size := ⟨_, rfl⟩
    rw [← hg6] at hg
    have HXG6 := Lib.hid hg6
    have G6 := Lib.hid hg
    have HV := Lib.hid hV3
    clear ha hg hV3 hg6
    clear HB G0
    have HB := nHB
    have G0 := nG0
    clear nHB nG0
    have LEG6 := Lib.hid (show W.heap.size ≤ g6 from by rw [HXG6.out]; exact LB.out)
    have NEG0G6 := Lib.hid (show W.heap.size ≠ g6 from by have h1 := LTG0.out; rw [HXG6.out]; omega)
    have NEG6G0 := Lib.hid (NEG0G6.out.symm)
    clear LB LTG0
    go_upto_region 5 with (refine storeW _ (.tmp 6) (.tmp 26) _ x _ (heap_alloc_new _ _) rfl rfl rfl rfl rfl ?_; rw [setRowG_fold])
    rw [← HV.out]
    (try rw [← HXG6.out])
    clear HV HXG6
    go_wp2_with (first | (refine loadW _ (.tmp 2) W.heap.size a G0.out rfl rfl rfl ?_) | (refine loadW _ (.tmp 6) g6 x G6.out rfl rfl rfl ?_))
    refine (C2.out _).mono ?_
    rintro e w4 ⟨rfl, hb⟩
    have nHB := Lib.hid (belG HB.out hb HB.out.size)
    have nG0 := Lib.hid (oldG G0.out hb (Nat.le_refl _))
    have nG6 := Lib.hid (oldG G6.out hb (Nat.le_refl _))
    clear hb
    clear HB G0 G6
    have HB := nHB
    have G0 := nG0
    have G6 := nG6
    clear nHB nG0 nG6
    have LB := Lib.hid HB.out.size
    have LTG0 := Lib.hid (show W.heap.size < w4.heap.size from (Array.getElem?_eq_some_iff.1 G0.out).1)
    have LTG6 := Lib.hid (show g6 < w4.heap.size from (Array.getElem?_eq_some_iff.1 G6.out).1)
    obtain ⟨V4, hV4⟩ : ∃ V, V = w4.alloc (.cells (winC x) 25) := ⟨_, rfl⟩
    have ha := (Below.refl w4.heap.size w4).alloc (Nat.le_refl _) (.cells (winC x) 25)
    have hg := heap_alloc_new w4 (.cells (winC x) 25)
    have nHB := Lib.hid (HB.out.alloc HB.out.size (.cells (winC x) 25))
    rw [← hV4] at ha hg nHB
    have nG0 := Lib.hid (oldG G0.out ha (Nat.le_refl _))
    have nG6 := Lib.hid (oldG G6.out ha (Nat.le_refl _))
    obtain ⟨g8, hg8⟩ : ∃ g, g = w4.heap.size := ⟨_, rfl⟩
    rw [← hg8] at hg
    have HXG8 := Lib.hid hg8
    have G8 := Lib.hid hg
    have HV := Lib.hid hV4
    clear ha hg hV4 hg8
    clear HB G0 G6
    have HB := nHB
    have G0 := nG0
    have G6 := nG6
    clear nHB nG0 nG6
    have LEG8 := Lib.hid (show W.heap.size ≤ g8 from by rw [HXG8.out]; exact LB.out)
    have NEG0G8 := Lib.hid (show W.heap.size ≠ g8 from by have h1 := LTG0.out; rw [HXG8.out]; omega)
    have NEG8G0 := Lib.hid (NEG0G8.out.symm)
    have NEG6G8 := Lib.hid (show g6 ≠ g8 from by have h1 := LTG6.out; rw [HXG8.out]; omega)
    have NEG8G6 := Lib.hid (NEG6G8.out.symm)
    clear LB LTG0 LTG6
    go_upto_region 6 with (refine storeW _ (.tmp 8) (.tmp 31) _ x _ (heap_alloc_new _ _) rfl rfl rfl rfl rfl ?_; rw [setRowG_fold])
    rw [← HV.out]
    (try rw [← HXG8.out])
    clear HV HXG8
    go_wp2_with (first | (refine loadW _ (.tmp 2) W.heap.size a G0.out rfl rfl rfl ?_) | (refine loadW _ (.tmp 6) g6 x G6.out rfl rfl rfl ?_) | (refine loadW _ (.tmp 8) g8 x G8.out rfl rfl rfl ?_))
    refine (C3.out _).mono ?_
    rintro e w5 ⟨rfl, hb⟩
    have nHB := Lib.hid (belG HB.out hb HB.out.size)
    have nG0 := Lib.hid (oldG G0.out hb (Nat.le_refl _))
    have nG6 := Lib.hid (oldG G6.out hb (Nat.le_refl _))
    have nG8 := Lib.hid (oldG G8.out hb (Nat.le_refl _))
    clear hb
    clear HB G0 G6 G8
    have HB := nHB
    have G0 := nG0
    have G6 := nG6
    have G8 := nG8
    clear nHB nG0 nG6 nG8
    have LB := Lib.hid HB.out.size
    have LTG0 := Lib.hid (show W.heap.size < w5.heap.size from (Array.getElem?_eq_some_iff.1 G0.out).1)
    have LTG6 := Lib.hid (show g6 < w5.heap.size from (Array.getElem?_eq_some_iff.1 G6.out).1)
    have LTG8 := Lib.hid (show g8 < w5.heap.size from (Array.getElem?_eq_some_iff.1 G8.out).1)
    obtain ⟨V5, hV5⟩ : ∃ V, V = w5.alloc (.cells (winC x) 25) := ⟨_, rfl⟩
    have ha := (Below.refl w5.heap.size w5).alloc (Nat.le_refl _) (.cells (winC x) 25)
    have hg := heap_alloc_new w5 (.cells (winC x) 25)
    have nHB := Lib.hid (HB.out.alloc HB.out.size (.cells (winC x) 25))
    rw [← hV5] at ha hg nHB
    have nG0 := Lib.hid (oldG G0.out ha (Nat.le_refl _))
    have nG6 := Lib.hid (oldG G6.out ha (Nat.le_refl _))
    have nG8 := Lib.hid (oldG G8.out ha (Nat.le_refl _))
    obtain ⟨g10, hg10⟩ : ∃ g, g = w5.heap.size := ⟨_, rfl⟩
    rw [← hg10] at hg
    have HXG10 := Lib.hid hg10
    have G10 := Lib.hid hg
    have HV := Lib.hid hV5
    clear ha hg hV5 hg10
    clear HB G0 G6 G8
    have HB := nHB
    have G0 := nG0
    have G6 := nG6
    have G8 := nG8
    clear nHB nG0 nG6 nG8
    have LEG10 := Lib.hid (show W.heap.size ≤ g10 from by rw [HXG10.out]; exact LB.out)
    have NEG0G10 := Lib.hid (show W.heap.size ≠ g10 from by have h1 := LTG0.out; rw [HXG10.out]; omega)
    have NEG10G0 := Lib.hid (NEG0G10.out.symm)
    have NEG6G10 := Lib.hid (show g6 ≠ g10 from by have h1 := LTG6.out; rw [HXG10.out]; omega)
    have NEG10G6 := Lib.hid (NEG6G10.out.symm)
    have NEG8G10 := Lib.hid (show g8 ≠ g10 from by have h1 := LTG8.out; rw [HXG10.out]; omega)
    have NEG10G8 := Lib.hid (NEG8G10.out.symm)
    clear LB LTG0 LTG6 LTG8
    go_upto_region 7 with (refine storeW _ (.tmp 10) (.tmp 36) _ x _ (heap_alloc_new _ _) rfl rfl rfl rfl rfl ?_; rw [setRowG_fold])
    rw [← HV.out]
    (try rw [← HXG10.out])
    clear HV HXG10
    have x0 := BoxW.cell G6.out HC1.out
    go_wp2_with (first | (refine loadW _ (.tmp 2) W.heap.size a G0.out rfl rfl rfl ?_) | (refine loadW _ (.tmp 6) g6 x G6.out rfl rfl rfl ?_) | (refine loadW _ (.tmp 8) g8 x G8.out rfl rfl rfl ?_) | (refine loadW _ (.tmp 10) g10 x G10.out rfl rfl rfl ?_))
    clear x0
    refine (CF.out _).mono ?_
    rintro e w6 ⟨rfl, hb⟩
    have nHB := Lib.hid (belG HB.out hb HB.out.size)
    have nG0 := Lib.hid (oldG G0.out hb (Nat.le_refl _))
    have nG6 := Lib.hid (oldG G6.out hb (Nat.le_refl _))
    have nG8 := Lib.hid (oldG G8.out hb (Nat.le_refl _))
    have nG10 := Lib.hid (oldG G10.out hb (Nat.le_refl _))
    clear hb
    clear HB G0 G6 G8 G10
    have HB := nHB
    have G0 := nG0
    have G6 := nG6
    have G8 := nG8
    have G10 := nG10
    clear nHB nG0 nG6 nG8 nG10
    go_wp2_with (first | (refine loadW _ (.tmp 2) W.heap.size a G0.out rfl rfl rfl ?_) | (refine loadW _ (.tmp 6) g6 x G6.out rfl rfl rfl ?_) | (refine loadW _ (.tmp 8) g8 x G8.out rfl rfl rfl ?_) | (refine loadW _ (.tmp 10) g10 x G10.out rfl rfl rfl ?_))
    go_ret
    exact ⟨by first | rfl | (simp; done) | (simp; omega), HB.out⟩
set_option maxRecDepth 100000 in
theorem winEnds_walkI (a : Wn) (p : Int) (W : World) (h64 : W64 a) (ht : B64w a.top) (hp : 0 ≤ p ∧ p ≤ 65535) :
    Calls Try.prog 8 #[.agg (winC a), .int .u16 p] W fun e W' => e = .returned (.bool true) ∧ Below W.heap.size W W' := by
  obtain ⟨x, rfl⟩ := Int.eq_ofNat_of_zero_le hp.1
  exact winEnds_walk a x W h64 ht (by omega)
end Go.Proofs.Ytdnfggjklblpnaa
