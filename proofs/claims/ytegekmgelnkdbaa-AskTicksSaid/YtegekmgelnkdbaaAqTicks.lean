
/- AskTicks' walk. -/
import Derived.Test.YtegekmgelnkdbaaAqS
namespace Go.Proofs.Ytegekmgelnkdbaa
open Go.RowKit

set_option maxRecDepth 100000 in
set_option maxHeartbeats 4000000 in
theorem askTicks_walk (x : Wkb) (a : Aq) (W : World) (h64 : Aq64 a) (hx : AqR W x a) (hT : Tas W) :
    Calls Try.prog 4 #[.agg (askC x a)] W fun e W' => e = .returned (.bool true) ∧ Below W.heap.size W W' := by
  have HT := Lib.hid hT
  clear hT
  have RA := Lib.hid hx
  have CR := Lib.hid (fun w => right15_any x a w)
  clear hx
  by_cases hR : RightA a
  case neg =>
    rw [decide_eq_false hR] at CR
    obtain ⟨V0, hV, hb, hg⟩ := bx1 W 24 (askC x a)
    have HB := Lib.hid hb
    have Ga := Lib.hid hg
    have HV := Lib.hid hV
    have nRA := Lib.hid (RA.out.go hb)
    clear RA
    have RA := nRA
    clear nRA
    clear hb hg hV
    go_enter Try.func4, Try.ntmps4
    go_upto_region 1 with (fail)
    rw [← HV.out]
    clear HV
    go_wp2_with fail
    refine (shown15_any _ (HT.out.below HB.out)).mono ?_
    rintro e w1 ⟨rfl, hb⟩
    have nHB := Lib.hid (belG HB.out hb HB.out.size)
    have nRA := Lib.hid (RA.out.go hb)
    have nGa := Lib.hid (Bx.go Ga.out hb)
    clear hb
    clear HB RA Ga
    have HB := nHB
    have RA := nRA
    have Ga := nGa
    clear nHB nRA nGa
    go_wp2_with (refine loadX (.tmp 1) W.heap.size (askC x a) tyAsk rfl Ga.out rfl rfl rfl ?_)
    refine (CR.out _).mono ?_
    rintro e w2 ⟨rfl, hb⟩
    have nHB := Lib.hid (belG HB.out hb HB.out.size)
    have nRA := Lib.hid (RA.out.go hb)
    have nGa := Lib.hid (Bx.go Ga.out hb)
    clear hb
    clear HB RA Ga
    have HB := nHB
    have RA := nRA
    have Ga := nGa
    clear nHB nRA nGa
    go_wp2_with fail
    go_ret
    exact ⟨by first | rfl | (simp; done), HB.out⟩
  rw [decide_eq_true hR] at CR
  have ET := Lib.hid (fun w hT h => aTick_any x a w hT hR h)
  have DT := Lib.hid (fun w h => tick15_any x a w h64 h)
  have hr2 := tickA_right hR
  obtain ⟨q, hq⟩ : ∃ q, q = (tickA a).1 := ⟨_, rfl⟩
  obtain ⟨b1, hb1⟩ : ∃ q, q = (tickA a).2.1 := ⟨_, rfl⟩
  obtain ⟨b2, hb2⟩ : ∃ q, q = (tickA a).2.2 := ⟨_, rfl⟩
  rw [← hq, ← hb1, ← hb2] at ET DT
  rw [← hq] at hr2
  have SQ := Lib.hid (fun y z w h k => same15_any y z q q w h k)
  rw [decide_eq_true (rfl : q = q)] at SQ
  have DR := Lib.hid (fun y w => right15_any y q w)
  rw [decide_eq_true hr2] at DR
  have q1 : (b1 == b1) = true := by cases b1 <;> rfl
  have q2 : (b2 == b2) = true := by cases b2 <;> rfl
  clear hq hb1 hb2 hr2 hR h64
  obtain ⟨V0, hV, hb, hg⟩ := bx1 W 24 (askC x a)
  have HB := Lib.hid hb
  have Ga := Lib.hid hg
  have HV := Lib.hid hV
  have nRA := Lib.hid (RA.out.go hb)
  clear RA
  have RA := nRA
  clear nRA
  clear hb hg hV
  go_enter Try.func4, Try.ntmps4
  go_upto_region 1 with (fail)
  rw [← HV.out]
  clear HV
  go_wp2_with fail
  refine (shown15_any _ (HT.out.below HB.out)).mono ?_
  rintro e w1 ⟨rfl, hb⟩
  have nHB := Lib.hid (belG HB.out hb HB.out.size)
  have nRA := Lib.hid (RA.out.go hb)
  have nGa := Lib.hid (Bx.go Ga.out hb)
  clear hb
  clear HB RA Ga
  have HB := nHB
  have RA := nRA
  have Ga := nGa
  clear nHB nRA nGa
  go_wp2_with (refine loadX (.tmp 1) W.heap.size (askC x a) tyAsk rfl Ga.out rfl rfl rfl ?_)
  refine (CR.out _).mono ?_
  rintro e w2 ⟨rfl, hb⟩
  have nHB := Lib.hid (belG HB.out hb HB.out.size)
  have nRA := Lib.hid (RA.out.go hb)
  have nGa := Lib.hid (Bx.go Ga.out hb)
  clear hb
  clear HB RA Ga
  have HB := nHB
  have RA := nRA
  have Ga := nGa
  clear nHB nRA nGa
  go_wp2_with (refine loadX (.tmp 1) W.heap.size (askC x a) tyAsk rfl Ga.out rfl rfl rfl ?_)
  refine (ET.out _ (HT.out.below HB.out) RA.out).mono ?_
  rintro e w3 ⟨⟨y, rfl, hk⟩, hb⟩
  have nHB := Lib.hid (belG HB.out hb HB.out.size)
  have nRA := Lib.hid (RA.out.go hb)
  have nGa := Lib.hid (Bx.go Ga.out hb)
  clear hb
  clear HB RA Ga
  have HB := nHB
  have RA := nRA
  have Ga := nGa
  clear nHB nRA nGa
  have RGy := Lib.hid hk
  clear hk
  have LB := Lib.hid HB.out.size
  have LTGa := Lib.hid (show W.heap.size < w3.heap.size from Bx.lt Ga.out)
  obtain ⟨V3, hV3⟩ : ∃ V, V = w3.alloc (.cells (askC y q) 24) := ⟨_, rfl⟩
  have ha := (Below.refl w3.heap.size w3).alloc (Nat.le_refl _) (.cells (askC y q) 24)
  have hg := heap_alloc_new w3 (.cells (askC y q) 24)
  have nHB := Lib.hid (HB.out.alloc HB.out.size (.cells (askC y q) 24))
  rw [← hV3] at ha hg nHB
  have nRA := Lib.hid (RA.out.go ha)
  have nRGy := Lib.hid (RGy.out.go ha)
  have nGa := Lib.hid (Bx.go Ga.out ha)
  obtain ⟨gy, hgy⟩ : ∃ g, g = w3.heap.size := ⟨_, rfl⟩
  rw [← hgy] at hg
  have HXGy := Lib.hid hgy
  have Gy := Lib.hid hg
  have HV := Lib.hid hV3
  clear ha hg hV3 hgy
  clear HB RA RGy Ga
  have HB := nHB
  have RA := nRA
  have RGy := nRGy
  have Ga := nGa
  clear nHB nRA nRGy nGa
  have LEGy := Lib.hid (show W.heap.size ≤ gy from by rw [HXGy.out]; exact LB.out)
  have NEGaGy := Lib.hid (show W.heap.size ≠ gy from by have h1 := LTGa.out; rw [HXGy.out]; omega)
  have NEGyGa := Lib.hid (NEGaGy.out.symm)
  clear LB LTGa
  go_upto_region 5 with (refine storeX (.tmp 4) (.tmp 18) _ (askC y q) _ tyAsk rfl (askC_one _ _) (heap_alloc_new _ _) rfl rfl rfl rfl rfl ?_; rw [setRowG_fold])
  rw [← HV.out]
  (try rw [← HXGy.out])
  clear HV HXGy
  go_wp2_with (refine loadX (.tmp 1) W.heap.size (askC x a) tyAsk rfl Ga.out rfl rfl rfl ?_)
  refine (DT.out _ RA.out).mono ?_
  rintro e w4 ⟨⟨z, rfl, hk⟩, hb⟩
  have nHB := Lib.hid (belG HB.out hb HB.out.size)
  have nRA := Lib.hid (RA.out.go hb)
  have nRGy := Lib.hid (RGy.out.go hb)
  have nGa := Lib.hid (Bx.go Ga.out hb)
  have nGy := Lib.hid (Bx.go Gy.out hb)
  clear hb
  clear HB RA RGy Ga Gy
  have HB := nHB
  have RA := nRA
  have RGy := nRGy
  have Ga := nGa
  have Gy := nGy
  clear nHB nRA nRGy nGa nGy
  have RGz := Lib.hid hk
  clear hk
  have LB := Lib.hid HB.out.size
  have LTGa := Lib.hid (show W.heap.size < w4.heap.size from Bx.lt Ga.out)
  have LTGy := Lib.hid (show gy < w4.heap.size from Bx.lt Gy.out)
  obtain ⟨V4, hV4⟩ : ∃ V, V = w4.alloc (.cells (askC z q) 24) := ⟨_, rfl⟩
  have ha := (Below.refl w4.heap.size w4).alloc (Nat.le_refl _) (.cells (askC z q) 24)
  have hg := heap_alloc_new w4 (.cells (askC z q) 24)
  have nHB := Lib.hid (HB.out.alloc HB.out.size (.cells (askC z q) 24))
  rw [← hV4] at ha hg nHB
  have nRA := Lib.hid (RA.out.go ha)
  have nRGy := Lib.hid (RGy.out.go ha)
  have nRGz := Lib.hid (RGz.out.go ha)
  have nGa := Lib.hid (Bx.go Ga.out ha)
  have nGy := Lib.hid (Bx.go Gy.out ha)
  obtain ⟨gz, hgz⟩ : ∃ g, g = w4.heap.size := ⟨_, rfl⟩
  rw [← hgz] at hg
  have HXGz := Lib.hid hgz
  have Gz := Lib.hid hg
  have HV := Lib.hid hV4
  clear ha hg hV4 hgz
  clear HB RA RGy RGz Ga Gy
  have HB := nHB
  have RA := nRA
  have RGy := nRGy
  have RGz := nRGz
  have Ga := nGa
  have Gy := nGy
  clear nHB nRA nRGy nRGz nGa nGy
  have LEGz := Lib.hid (show W.heap.size ≤ gz from by rw [HXGz.out]; exact LB.out)
  have NEGaGz := Lib.hid (show W.heap.size ≠ gz from by have h1 := LTGa.out; rw [HXGz.out]; omega)
  have NEGzGa := Lib.hid (NEGaGz.out.symm)
  have NEGyGz := Lib.hid (show gy ≠ gz from by have h1 := LTGy.out; rw [HXGz.out]; omega)
  have NEGzGy := Lib.hid (NEGyGz.out.symm)
  clear LB LTGa LTGy
  go_upto_region 6 with (refine storeX (.tmp 7) (.tmp 24) _ (askC z q) _ tyAsk rfl (askC_one _ _) (heap_alloc_new _ _) rfl rfl rfl rfl rfl ?_; rw [setRowG_fold])
  rw [← HV.out]
  (try rw [← HXGz.out])
  clear HV HXGz
  go_wp2_with (first | (refine loadX (.tmp 4) gy (askC y q) tyAsk rfl Gy.out rfl rfl rfl ?_) | (refine loadX (.tmp 7) gz (askC z q) tyAsk rfl Gz.out rfl rfl rfl ?_))
  refine (SQ.out y z _ RGy.out RGz.out).mono ?_
  rintro e w5 ⟨rfl, hb⟩
  have nHB := Lib.hid (belG HB.out hb HB.out.size)
  have nRA := Lib.hid (RA.out.go hb)
  have nRGy := Lib.hid (RGy.out.go hb)
  have nRGz := Lib.hid (RGz.out.go hb)
  have nGa := Lib.hid (Bx.go Ga.out hb)
  have nGy := Lib.hid (Bx.go Gy.out hb)
  have nGz := Lib.hid (Bx.go Gz.out hb)
  clear hb
  clear HB RA RGy RGz Ga Gy Gz
  have HB := nHB
  have RA := nRA
  have RGy := nRGy
  have RGz := nRGz
  have Ga := nGa
  have Gy := nGy
  have Gz := nGz
  clear nHB nRA nRGy nRGz nGa nGy nGz
  go_wp2_with (refine loadX (.tmp 4) gy (askC y q) tyAsk rfl Gy.out rfl rfl rfl ?_)
  refine (DR.out y _).mono ?_
  rintro e w6 ⟨rfl, hb⟩
  have nHB := Lib.hid (belG HB.out hb HB.out.size)
  have nRA := Lib.hid (RA.out.go hb)
  have nRGy := Lib.hid (RGy.out.go hb)
  have nRGz := Lib.hid (RGz.out.go hb)
  have nGa := Lib.hid (Bx.go Ga.out hb)
  have nGy := Lib.hid (Bx.go Gy.out hb)
  have nGz := Lib.hid (Bx.go Gz.out hb)
  clear hb
  clear HB RA RGy RGz Ga Gy Gz
  have HB := nHB
  have RA := nRA
  have RGy := nRGy
  have RGz := nRGz
  have Ga := nGa
  have Gy := nGy
  have Gz := nGz
  clear nHB nRA nRGy nRGz nGa nGy nGz
  go_wp2_with fail
  go_ret
  exact ⟨by first | rfl | (simp; done), HB.out⟩
end Go.Proofs.Ytegekmgelnkdbaa
