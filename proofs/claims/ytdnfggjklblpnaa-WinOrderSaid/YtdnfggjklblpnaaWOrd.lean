
/- WinOrder's walk. -/
import Derived.Test.YtdnfggjklblpnaaJ07
import Derived.Test.YtdnfggjklblpnaaJ06
namespace Go.Proofs.Ytdnfggjklblpnaa
open Go.RowKit

set_option maxRecDepth 100000 in
set_option maxHeartbeats 4000000 in
theorem winOrder_walk (a : Wn) (p q : Nat) (W : World) (h64 : W64 a) (ht : B64w a.top) (hp : p ≤ 65535) (hq : q ≤ 65535) :
    Calls Try.prog 7 #[.agg (winC a), .int .u16 (p : Int), .int .u16 (q : Int)] W fun e W' => e = .returned (.bool true) ∧ Below W.heap.size W W' := by
  have CR := Lib.hid (fun w => right10_any a h64 w)
  obtain ⟨t, htt⟩ : ∃ t, t = a.top := ⟨_, rfl⟩
  have HT := Lib.hid htt
  have HC := Lib.hid (show (winC a)[0]? = some (.int .i64 t) from by rw [htt]; exact winC_top a)
  rw [← htt] at ht
  obtain ⟨ht1, ht2⟩ := ht
  by_cases hR : RightW a
  case neg =>
    rw [decide_eq_false hR] at CR
    clear h64 hR htt
    obtain ⟨V0, C, hC, hV, hb, hg⟩ := boxW1 W a
    have HB := Lib.hid hb
    have G0 := Lib.hid hg
    have HV := Lib.hid hV
    rw [← hC]
    clear hb hg hV hC
    go_enter Try.func7, Try.ntmps7
    go_upto_region 1 with (fail)
    rw [← HV.out]
    clear HV
    go_wp2_with fail
    refine (shown10_any _).mono ?_
    rintro e w1 ⟨rfl, hb⟩
    have nHB := Lib.hid (belG HB.out hb HB.out.size)
    have nG0 := Lib.hid (oldG G0.out hb (Nat.le_refl _))
    clear hb
    clear HB G0
    have HB := nHB
    have G0 := nG0
    clear nHB nG0
    go_wp2_with (first | (refine loadW _ (.tmp 3) W.heap.size a G0.out rfl rfl rfl ?_))
    refine (CR.out _).mono ?_
    rintro e w2 ⟨rfl, hb⟩
    have nHB := Lib.hid (belG HB.out hb HB.out.size)
    have nG0 := Lib.hid (oldG G0.out hb (Nat.le_refl _))
    clear hb
    clear HB G0
    have HB := nHB
    have G0 := nG0
    clear nHB nG0
    go_wp2_with (first | (refine loadW _ (.tmp 3) W.heap.size a G0.out rfl rfl rfl ?_))
    go_ret
    exact ⟨rfl, HB.out⟩
  rw [decide_eq_true hR] at CR
  have hr1 := hR.1
  have hr2 := hR.2.1
  rw [← htt] at hr1 hr2
  unfold most at hr2
  by_cases hbig : 1000000000000 < t
  case pos =>
    clear h64 hR htt
    obtain ⟨V0, C, hC, hV, hb, hg⟩ := boxW1 W a
    have HB := Lib.hid hb
    have G0 := Lib.hid hg
    have HV := Lib.hid hV
    rw [← hC]
    clear hb hg hV hC
    go_enter Try.func7, Try.ntmps7
    go_upto_region 1 with (fail)
    rw [← HV.out]
    clear HV
    go_wp2_with fail
    refine (shown10_any _).mono ?_
    rintro e w1 ⟨rfl, hb⟩
    have nHB := Lib.hid (belG HB.out hb HB.out.size)
    have nG0 := Lib.hid (oldG G0.out hb (Nat.le_refl _))
    clear hb
    clear HB G0
    have HB := nHB
    have G0 := nG0
    clear nHB nG0
    go_wp2_with (first | (refine loadW _ (.tmp 3) W.heap.size a G0.out rfl rfl rfl ?_))
    refine (CR.out _).mono ?_
    rintro e w2 ⟨rfl, hb⟩
    have nHB := Lib.hid (belG HB.out hb HB.out.size)
    have nG0 := Lib.hid (oldG G0.out hb (Nat.le_refl _))
    clear hb
    clear HB G0
    have HB := nHB
    have G0 := nG0
    clear nHB nG0
    have x0 := BoxW.cell G0.out HC.out
    go_wp2_with (first | (refine loadW _ (.tmp 3) W.heap.size a G0.out rfl rfl rfl ?_))
    go_ret
    exact ⟨rfl, HB.out⟩
  obtain ⟨T, rfl⟩ := Int.eq_ofNat_of_zero_le hr1
  obtain ⟨A, hA⟩ : ∃ A, A = T + p := ⟨_, rfl⟩
  obtain ⟨D, hD⟩ : ∃ D, D = q % 1023 := ⟨_, rfl⟩
  obtain ⟨B, hB⟩ : ∃ B, B = A + 1 + D := ⟨_, rfl⟩
  have i1 : (T : Int) + (p : Int) = (A : Int) := by omega
  have i2 : (q : Int) % 1023 = (D : Int) := by omega
  have i3 : (q : Int).tmod 1023 = (D : Int) := by rw [Int.tmod_eq_emod_of_nonneg (by omega)]; exact i2
  have i4 : (A : Int) + 1 + (D : Int) = (B : Int) := by omega
  have ft : a.top ≤ (A : Int) := by rw [← htt]; omega
  have fa : FreshW a (A : Int) := fresh_top hR ft (by unfold most; omega)
  have fb : FreshW a (B : Int) := fresh_top hR (by omega) (by unfold most; omega)
  have f1 : FreshW (markW a A) (B : Int) := (mark_fresh fa _).2 ⟨fb, by omega, by omega⟩
  have f2 : FreshW (markW a B) (A : Int) := (mark_fresh fb _).2 ⟨fa, by omega, by omega⟩
  have n3 : ¬ FreshW (markW (markW a B) A) (B : Int) := fun h => ((mark_fresh fb _).1 ((mark_fresh f2 _).1 h).1).2.1 rfl
  have r1 := mark_right hR fa
  have r2 := mark_right hR fb
  have r3 := mark_right r2 f2
  have bA : B64w (A : Int) := by unfold B64w; omega
  have bB : B64w (B : Int) := by unfold B64w; omega
  have C1 := Lib.hid (fun (w : World) => (show Calls Try.prog 15 #[.agg (winC a), .int .i64 (A : Int)] w fun e W' => e = .returned (.tuple #[.agg (winC (markW a A)), .int .i64 0]) ∧ Below w.heap.size w W' from by
    have h := wMark_any a h64 hR A bA w
    unfold AnsWn at h
    rw [markR_ok fa] at h
    exact h))
  have C2 := Lib.hid (fun (w : World) => (show Calls Try.prog 15 #[.agg (winC (markW a A)), .int .i64 (B : Int)] w fun e W' => e = .returned (.tuple #[.agg (winC (markW (markW a A) B)), .int .i64 0]) ∧ Below w.heap.size w W' from by
    have h := wMark_any _ (markW_64 _ _) r1 B bB w
    unfold AnsWn at h
    rw [markR_ok f1] at h
    exact h))
  have C3 := Lib.hid (fun (w : World) => (show Calls Try.prog 15 #[.agg (winC a), .int .i64 (B : Int)] w fun e W' => e = .returned (.tuple #[.agg (winC (markW a B)), .int .i64 0]) ∧ Below w.heap.size w W' from by
    have h := wMark_any a h64 hR B bB w
    unfold AnsWn at h
    rw [markR_ok fb] at h
    exact h))
  have C4 := Lib.hid (fun (w : World) => (show Calls Try.prog 15 #[.agg (winC (markW a B)), .int .i64 (A : Int)] w fun e W' => e = .returned (.tuple #[.agg (winC (markW (markW a B) A)), .int .i64 0]) ∧ Below w.heap.size w W' from by
    have h := wMark_any _ (markW_64 _ _) r2 A bA w
    unfold AnsWn at h
    rw [markR_ok f2] at h
    exact h))
  have C5 := Lib.hid (fun (w : World) => (show Calls Try.prog 15 #[.agg (winC (markW (markW a B) A)), .int .i64 (B : Int)] w fun e W' => e = .returned (.tuple #[.agg (winC (markW (markW a B) A)), .int .i64 6]) ∧ Below w.heap.size w W' from by
    have h := wMark_any _ (markW_64 _ _) r3 B bB w
    unfold AnsWn at h
    rw [markR_old ⟨by omega, by unfold most; omega⟩ n3] at h
    exact h))
  have heq := fun W => run_eqlW W (markW (markW a A) B) (markW (markW a B) A)
  simp only [decide_eq_true (order_same hR ft (show (A : Int) < (B : Int) by omega) (by omega))] at heq
  generalize markW (markW a A) B = x2 at *
  generalize markW (markW a B) A = y2 at *
  generalize markW a A = x1 at *
  generalize markW a B = y1 at *
  clear h64 hR htt ft fa fb f1 f2 n3 r1 r2 r3 bA bB hA hD hB ht1 ht2 hr1 hr2
  obtain ⟨V0, C, hC, hV, hb, hg⟩ := boxW1 W a
  have HB := Lib.hid hb
  have G0 := Lib.hid hg
  have HV := Lib.hid hV
  rw [← hC]
  clear hb hg hV hC
  go_enter Try.func7, Try.ntmps7
  go_upto_region 1 with (fail)
  rw [← HV.out]
  clear HV
  go_wp2_with fail
  refine (shown10_any _).mono ?_
  rintro e w1 ⟨rfl, hb⟩
  have nHB := Lib.hid (belG HB.out hb HB.out.size)
  have nG0 := Lib.hid (oldG G0.out hb (Nat.le_refl _))
  clear hb
  clear HB G0
  have HB := nHB
  have G0 := nG0
  clear nHB nG0
  go_wp2_with (first | (refine loadW _ (.tmp 3) W.heap.size a G0.out rfl rfl rfl ?_))
  refine (CR.out _).mono ?_
  rintro e w2 ⟨rfl, hb⟩
  have nHB := Lib.hid (belG HB.out hb HB.out.size)
  have nG0 := Lib.hid (oldG G0.out hb (Nat.le_refl _))
  clear hb
  clear HB G0
  have HB := nHB
  have G0 := nG0
  clear nHB nG0
  have x0 := BoxW.cell G0.out HC.out
  go_wp2_with (first | (refine loadW _ (.tmp 3) W.heap.size a G0.out rfl rfl rfl ?_))
  clear x0
  refine (C1.out _).mono ?_
  rintro e w3 ⟨rfl, hb⟩
  have nHB := Lib.hid (belG HB.out hb HB.out.size)
  have nG0 := Lib.hid (oldG G0.out hb (Nat.le_refl _))
  clear hb
  clear HB G0
  have HB := nHB
  have G0 := nG0
  clear nHB nG0
  have LB := Lib.hid HB.out.size
  have LTG0 := Lib.hid (show W.heap.size < w3.heap.size from (Array.getElem?_eq_some_iff.1 G0.out).1)
  obtain ⟨V3, hV3⟩ : ∃ V, V = w3.alloc (.cells (winC x1) 25) := ⟨_, rfl⟩
  have ha := (Below.refl w3.heap.size w3).alloc (Nat.le_refl _) (.cells (winC x1) 25)
  have hg := heap_alloc_new w3 (.cells (winC x1) 25)
  have nHB := Lib.hid (HB.out.alloc HB.out.size (.cells (winC x1) 25))
  rw [← hV3] at ha hg nHB
  have nG0 := Lib.hid (oldG G0.out ha (Nat.le_refl _))
  obtain ⟨g10, hg10⟩ : ∃ g, g = w3.heap.size := ⟨_, rfl⟩
  rw [← hg10] at hg
  have HXG10 := Lib.hid hg10
  have G10 := Lib.hid hg
  have HV := Lib.hid hV3
  clear ha hg hV3 hg10
  clear HB G0
  have HB := nHB
  have G0 := nG0
  clear nHB nG0
  have LEG10 := Lib.hid (show W.heap.size ≤ g10 from by rw [HXG10.out]; exact LB.out)
  have NEG0G10 := Lib.hid (show W.heap.size ≠ g10 from by have h1 := LTG0.out; rw [HXG10.out]; omega)
  have NEG10G0 := Lib.hid (NEG0G10.out.symm)
  clear LB LTG0
  go_upto_region 7 with (refine storeW _ (.tmp 10) (.tmp 43) _ x1 _ (heap_alloc_new _ _) rfl rfl rfl rfl rfl ?_; rw [setRowG_fold])
  rw [← HV.out]
  (try rw [← HXG10.out])
  clear HV HXG10
  go_wp2_with (first | (refine loadW _ (.tmp 3) W.heap.size a G0.out rfl rfl rfl ?_) | (refine loadW _ (.tmp 10) g10 x1 G10.out rfl rfl rfl ?_))
  refine (C2.out _).mono ?_
  rintro e w4 ⟨rfl, hb⟩
  have nHB := Lib.hid (belG HB.out hb HB.out.size)
  have nG0 := Lib.hid (oldG G0.out hb (Nat.le_refl _))
  have nG10 := Lib.hid (oldG G10.out hb (Nat.le_refl _))
  clear hb
  clear HB G0 G10
  have HB := nHB
  have G0 := nG0
  have G10 := nG10
  clear nHB nG0 nG10
  go_upto_region 8 with (first | (refine loadW _ (.tmp 3) W.heap.size a G0.out rfl rfl rfl ?_) | (refine loadW _ (.tmp 10) g10 x1 G10.out rfl rfl rfl ?_) | (refine storeW _ (.tmp 10) (.tmp 49) g10 x2 _ G10.out rfl rfl rfl rfl rfl ?_))
  obtain ⟨V5, hV5⟩ : ∃ V, V = w4.setRow g10 (winC x2) := ⟨_, rfl⟩
  have nHB := Lib.hid (show Below W.heap.size W V5 by rw [hV5]; exact Below.setRowG HB.out LEG10.out _)
  have nG0 := Lib.hid (show BoxW V5 W.heap.size a from by rw [hV5]; exact (setRow_other _ _ _ _ NEG0G10.out).trans G0.out)
  have nG10 := Lib.hid (show BoxW V5 g10 x2 from by rw [hV5]; exact setRow_heap _ _ _ _ _ _ G10.out)
  rw [← hV5]
  clear hV5
  clear HB G0 G10
  have HB := nHB
  have G0 := nG0
  have G10 := nG10
  clear nHB nG0 nG10
  go_wp2_with (first | (refine loadW _ (.tmp 3) W.heap.size a G0.out rfl rfl rfl ?_) | (refine loadW _ (.tmp 10) g10 x2 G10.out rfl rfl rfl ?_))
  refine (C3.out _).mono ?_
  rintro e w6 ⟨rfl, hb⟩
  have nHB := Lib.hid (belG HB.out hb HB.out.size)
  have nG0 := Lib.hid (oldG G0.out hb (Nat.le_refl _))
  have nG10 := Lib.hid (oldG G10.out hb (Nat.le_refl _))
  clear hb
  clear HB G0 G10
  have HB := nHB
  have G0 := nG0
  have G10 := nG10
  clear nHB nG0 nG10
  have LB := Lib.hid HB.out.size
  have LTG0 := Lib.hid (show W.heap.size < w6.heap.size from (Array.getElem?_eq_some_iff.1 G0.out).1)
  have LTG10 := Lib.hid (show g10 < w6.heap.size from (Array.getElem?_eq_some_iff.1 G10.out).1)
  obtain ⟨V6, hV6⟩ : ∃ V, V = w6.alloc (.cells (winC y1) 25) := ⟨_, rfl⟩
  have ha := (Below.refl w6.heap.size w6).alloc (Nat.le_refl _) (.cells (winC y1) 25)
  have hg := heap_alloc_new w6 (.cells (winC y1) 25)
  have nHB := Lib.hid (HB.out.alloc HB.out.size (.cells (winC y1) 25))
  rw [← hV6] at ha hg nHB
  have nG0 := Lib.hid (oldG G0.out ha (Nat.le_refl _))
  have nG10 := Lib.hid (oldG G10.out ha (Nat.le_refl _))
  obtain ⟨g13, hg13⟩ : ∃ g, g = w6.heap.size := ⟨_, rfl⟩
  rw [← hg13] at hg
  have HXG13 := Lib.hid hg13
  have G13 := Lib.hid hg
  have HV := Lib.hid hV6
  clear ha hg hV6 hg13
  clear HB G0 G10
  have HB := nHB
  have G0 := nG0
  have G10 := nG10
  clear nHB nG0 nG10
  have LEG13 := Lib.hid (show W.heap.size ≤ g13 from by rw [HXG13.out]; exact LB.out)
  have NEG0G13 := Lib.hid (show W.heap.size ≠ g13 from by have h1 := LTG0.out; rw [HXG13.out]; omega)
  have NEG13G0 := Lib.hid (NEG0G13.out.symm)
  have NEG10G13 := Lib.hid (show g10 ≠ g13 from by have h1 := LTG10.out; rw [HXG13.out]; omega)
  have NEG13G10 := Lib.hid (NEG10G13.out.symm)
  clear LB LTG0 LTG10
  go_upto_region 9 with (refine storeW _ (.tmp 13) (.tmp 55) _ y1 _ (heap_alloc_new _ _) rfl rfl rfl rfl rfl ?_; rw [setRowG_fold])
  rw [← HV.out]
  (try rw [← HXG13.out])
  clear HV HXG13
  go_wp2_with (first | (refine loadW _ (.tmp 3) W.heap.size a G0.out rfl rfl rfl ?_) | (refine loadW _ (.tmp 10) g10 x2 G10.out rfl rfl rfl ?_) | (refine loadW _ (.tmp 13) g13 y1 G13.out rfl rfl rfl ?_))
  refine (C4.out _).mono ?_
  rintro e w7 ⟨rfl, hb⟩
  have nHB := Lib.hid (belG HB.out hb HB.out.size)
  have nG0 := Lib.hid (oldG G0.out hb (Nat.le_refl _))
  have nG10 := Lib.hid (oldG G10.out hb (Nat.le_refl _))
  have nG13 := Lib.hid (oldG G13.out hb (Nat.le_refl _))
  clear hb
  clear HB G0 G10 G13
  have HB := nHB
  have G0 := nG0
  have G10 := nG10
  have G13 := nG13
  clear nHB nG0 nG10 nG13
  go_upto_region 10 with (first | (refine loadW _ (.tmp 3) W.heap.size a G0.out rfl rfl rfl ?_) | (refine loadW _ (.tmp 10) g10 x2 G10.out rfl rfl rfl ?_) | (refine loadW _ (.tmp 13) g13 y1 G13.out rfl rfl rfl ?_) | (refine storeW _ (.tmp 13) (.tmp 61) g13 y2 _ G13.out rfl rfl rfl rfl rfl ?_))
  obtain ⟨V8, hV8⟩ : ∃ V, V = w7.setRow g13 (winC y2) := ⟨_, rfl⟩
  have nHB := Lib.hid (show Below W.heap.size W V8 by rw [hV8]; exact Below.setRowG HB.out LEG13.out _)
  have nG0 := Lib.hid (show BoxW V8 W.heap.size a from by rw [hV8]; exact (setRow_other _ _ _ _ NEG0G13.out).trans G0.out)
  have nG10 := Lib.hid (show BoxW V8 g10 x2 from by rw [hV8]; exact (setRow_other _ _ _ _ NEG10G13.out).trans G10.out)
  have nG13 := Lib.hid (show BoxW V8 g13 y2 from by rw [hV8]; exact setRow_heap _ _ _ _ _ _ G13.out)
  rw [← hV8]
  clear hV8
  clear HB G0 G10 G13
  have HB := nHB
  have G0 := nG0
  have G10 := nG10
  have G13 := nG13
  clear nHB nG0 nG10 nG13
  go_wp2_with (first | (refine loadW _ (.tmp 3) W.heap.size a G0.out rfl rfl rfl ?_) | (refine loadW _ (.tmp 10) g10 x2 G10.out rfl rfl rfl ?_) | (refine loadW _ (.tmp 13) g13 y2 G13.out rfl rfl rfl ?_))
  refine (C5.out _).mono ?_
  rintro e w9 ⟨rfl, hb⟩
  have nHB := Lib.hid (belG HB.out hb HB.out.size)
  have nG0 := Lib.hid (oldG G0.out hb (Nat.le_refl _))
  have nG10 := Lib.hid (oldG G10.out hb (Nat.le_refl _))
  have nG13 := Lib.hid (oldG G13.out hb (Nat.le_refl _))
  clear hb
  clear HB G0 G10 G13
  have HB := nHB
  have G0 := nG0
  have G10 := nG10
  have G13 := nG13
  clear nHB nG0 nG10 nG13
  have LB := Lib.hid HB.out.size
  have LTG0 := Lib.hid (show W.heap.size < w9.heap.size from (Array.getElem?_eq_some_iff.1 G0.out).1)
  have LTG10 := Lib.hid (show g10 < w9.heap.size from (Array.getElem?_eq_some_iff.1 G10.out).1)
  have LTG13 := Lib.hid (show g13 < w9.heap.size from (Array.getElem?_eq_some_iff.1 G13.out).1)
  obtain ⟨V9, hV9⟩ : ∃ V, V = w9.alloc (.cells (winC y2) 25) := ⟨_, rfl⟩
  have ha := (Below.refl w9.heap.size w9).alloc (Nat.le_refl _) (.cells (winC y2) 25)
  have hg := heap_alloc_new w9 (.cells (winC y2) 25)
  have nHB := Lib.hid (HB.out.alloc HB.out.size (.cells (winC y2) 25))
  rw [← hV9] at ha hg nHB
  have nG0 := Lib.hid (oldG G0.out ha (Nat.le_refl _))
  have nG10 := Lib.hid (oldG G10.out ha (Nat.le_refl _))
  have nG13 := Lib.hid (oldG G13.out ha (Nat.le_refl _))
  obtain ⟨g16, hg16⟩ : ∃ g, g = w9.heap.size := ⟨_, rfl⟩
  rw [← hg16] at hg
  have HXG16 := Lib.hid hg16
  have G16 := Lib.hid hg
  have HV := Lib.hid hV9
  clear ha hg hV9 hg16
  clear HB G0 G10 G13
  have HB := nHB
  have G0 := nG0
  have G10 := nG10
  have G13 := nG13
  clear nHB nG0 nG10 nG13
  have LEG16 := Lib.hid (show W.heap.size ≤ g16 from by rw [HXG16.out]; exact LB.out)
  have NEG0G16 := Lib.hid (show W.heap.size ≠ g16 from by have h1 := LTG0.out; rw [HXG16.out]; omega)
  have NEG16G0 := Lib.hid (NEG0G16.out.symm)
  have NEG10G16 := Lib.hid (show g10 ≠ g16 from by have h1 := LTG10.out; rw [HXG16.out]; omega)
  have NEG16G10 := Lib.hid (NEG10G16.out.symm)
  have NEG13G16 := Lib.hid (show g13 ≠ g16 from by have h1 := LTG13.out; rw [HXG16.out]; omega)
  have NEG16G13 := Lib.hid (NEG13G16.out.symm)
  clear LB LTG0 LTG10 LTG13
  go_upto_region 11 with (refine storeW _ (.tmp 16) (.tmp 67) _ y2 _ (heap_alloc_new _ _) rfl rfl rfl rfl rfl ?_; rw [setRowG_fold])
  rw [← HV.out]
  (try rw [← HXG16.out])
  clear HV HXG16
  go_wp2_with (first | (refine loadW _ (.tmp 3) W.heap.size a G0.out rfl rfl rfl ?_) | (refine loadW _ (.tmp 10) g10 x2 G10.out rfl rfl rfl ?_) | (refine loadW _ (.tmp 13) g13 y2 G13.out rfl rfl rfl ?_) | (refine loadW _ (.tmp 16) g16 y2 G16.out rfl rfl rfl ?_))
  go_ret
  exact ⟨by first | rfl | simp, HB.out⟩
set_option maxRecDepth 100000 in
theorem winOrder_walkI (a : Wn) (p q : Int) (W : World) (h64 : W64 a) (ht : B64w a.top) (hp : 0 ≤ p ∧ p ≤ 65535) (hq : 0 ≤ q ∧ q ≤ 65535) :
    Calls Try.prog 7 #[.agg (winC a), .int .u16 p, .int .u16 q] W fun e W' => e = .returned (.bool true) ∧ Below W.heap.size W W' := by
  obtain ⟨x, rfl⟩ := Int.eq_ofNat_of_zero_le hp.1
  obtain ⟨y, rfl⟩ := Int.eq_ofNat_of_zero_le hq.1
  exact winOrder_walk a x y W h64 ht (by omega) (by omega)
end Go.Proofs.Ytdnfggjklblpnaa
