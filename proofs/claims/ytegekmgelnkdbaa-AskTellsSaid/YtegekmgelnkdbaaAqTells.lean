
/- AskTells' walk. -/
import Derived.Test.YtegekmgelnkdbaaAqS
import Derived.Test.YtegekmgelnkdbaaAqO
namespace Go.Proofs.Ytegekmgelnkdbaa
open Go.RowKit

set_option maxRecDepth 100000 in
theorem tyATell : Ty 26 13 := ⟨⟨_, Try.underlying26, rfl⟩, by kernel_rfl⟩
set_option maxRecDepth 100000 in
theorem aTell_a {x : Wkb} {a : Aq} {y : Wkb} {b : Aq} {c s : Int} {z : Wkb} {l : List UInt8} : Part (aTellC x a y b c s z l) 0 (askC x a) := fun j v h => by
  match j, h with
  | 0, h => exact h
  | 1, h => exact h
  | 2, h => exact h
  | 3, h => exact h
  | 4, h => exact h
set_option maxRecDepth 100000 in
theorem aTell_b {x : Wkb} {a : Aq} {y : Wkb} {b : Aq} {c s : Int} {z : Wkb} {l : List UInt8} : Part (aTellC x a y b c s z l) 5 (askC y b) := fun j v h => by
  match j, h with
  | 0, h => exact h
  | 1, h => exact h
  | 2, h => exact h
  | 3, h => exact h
  | 4, h => exact h
set_option maxRecDepth 100000 in
set_option maxHeartbeats 4000000 in
theorem askTells_walk (x : Wkb) (a : Aq) (y : Wkb) (b : Aq) (c s : Int) (z : Wkb) (l : List UInt8) (W : World) (h64a : Aq64 a) (h64b : Aq64 b) (hc : B64a c) (hs : B64a s) (hx : AqR W x a) (hy : AqR W y b) (hz : KeyB W z l) (hT : Tas W) :
    Calls Try.prog 3 #[.agg (aTellC x a y b c s z l)] W fun e W' => e = .returned (.bool true) ∧ Below W.heap.size W W' := by
  have HT := Lib.hid hT
  clear hT
  have RA := Lib.hid hx
  have RB := Lib.hid hy
  have RK := Lib.hid hz
  clear hx hy hz
  have HC10 := Lib.hid (show (aTellC x a y b c s z l)[10]? = some (.int .i64 c) from rfl)
  have HC11 := Lib.hid (show (aTellC x a y b c s z l)[11]? = some (.int .i64 s) from rfl)
  have HC12 := Lib.hid (show (aTellC x a y b c s z l)[12]? = some (.slice z.1 l.length z.2) from rfl)
  have PA := Lib.hid (aTell_a (x := x) (a := a) (y := y) (b := b) (c := c) (s := s) (z := z) (l := l))
  have PB := Lib.hid (aTell_b (x := x) (a := a) (y := y) (b := b) (c := c) (s := s) (z := z) (l := l))
  obtain ⟨CC, hCC⟩ : ∃ CC, CC = aTellC x a y b c s z l := ⟨_, rfl⟩
  rw [← hCC] at HC10 HC11 HC12 PA PB ⊢
  have HSZ := Lib.hid (show CC.size = 13 from by rw [hCC]; rfl)
  clear hCC
  obtain ⟨m, hm⟩ : ∃ m, m = l.length := ⟨_, rfl⟩
  rw [← hm] at HC12
  have HM := Lib.hid hm
  clear hm
  obtain ⟨na, hna⟩ : ∃ m, m = a.body.length := ⟨_, rfl⟩
  obtain ⟨nb, hnb⟩ : ∃ m, m = b.body.length := ⟨_, rfl⟩
  have HXA := Lib.hid (fun w g (h : BxQ w g x a) => show w.cell? ⟨g, 4, none⟩ = some (.slice x.1 na x.2) from by rw [hna]; exact h.cell rfl)
  have HXB := Lib.hid (fun w g (h : BxQ w g y b) => show w.cell? ⟨g, 4, none⟩ = some (.slice y.1 nb y.2) from by rw [hnb]; exact h.cell rfl)
  have HNA := Lib.hid hna
  have HNB := Lib.hid hnb
  have HS64 := Lib.hid (show Aq64 a ∧ Aq64 b ∧ B64a c ∧ B64a s from ⟨h64a, h64b, hc, hs⟩)
  clear hna hnb h64a h64b hc hs
  obtain ⟨V0, hV, hb, hg⟩ := bx1 W 26 CC
  have HB := Lib.hid hb
  have G0 := Lib.hid hg
  have HV := Lib.hid hV
  have nRA := Lib.hid (RA.out.go hb)
  clear RA
  have RA := nRA
  clear nRA
  have nRB := Lib.hid (RB.out.go hb)
  clear RB
  have RB := nRB
  clear nRB
  have nRK := Lib.hid (RK.out.go hb)
  clear RK
  have RK := nRK
  clear nRK
  clear hb hg hV
  go_enter Try.func3, Try.ntmps3
  go_upto_region 1 with (fail)
  rw [← HV.out]
  clear HV
  have OG0 := G0
  have LB := Lib.hid HB.out.size
  have LTG0 := Lib.hid (show W.heap.size < V0.heap.size from Bx.lt G0.out)
  obtain ⟨V1, hV1⟩ : ∃ V, V = V0.alloc (.cells (askC x a) 24) := ⟨_, rfl⟩
  have ha := (Below.refl V0.heap.size V0).alloc (Nat.le_refl _) (.cells (askC x a) 24)
  have hg := heap_alloc_new V0 (.cells (askC x a) 24)
  have nHB := Lib.hid (HB.out.alloc HB.out.size (.cells (askC x a) 24))
  rw [← hV1] at ha hg nHB
  have nRA := Lib.hid (RA.out.go ha)
  have nRB := Lib.hid (RB.out.go ha)
  have nRK := Lib.hid (RK.out.go ha)
  have nG0 := Lib.hid (Bx.go G0.out ha)
  obtain ⟨ga, hga⟩ : ∃ g, g = V0.heap.size := ⟨_, rfl⟩
  rw [← hga] at hg
  have HXGa := Lib.hid hga
  have Ga := Lib.hid hg
  have HV := Lib.hid hV1
  clear ha hg hV1 hga
  clear HB RA RB RK G0
  have HB := nHB
  have RA := nRA
  have RB := nRB
  have RK := nRK
  have G0 := nG0
  clear nHB nRA nRB nRK nG0
  have LEGa := Lib.hid (show W.heap.size ≤ ga from by rw [HXGa.out]; exact LB.out)
  have NEG0Ga := Lib.hid (show W.heap.size ≠ ga from by have h1 := LTG0.out; rw [HXGa.out]; omega)
  have NEGaG0 := Lib.hid (NEG0Ga.out.symm)
  clear LB LTG0
  go_upto_region 2 with (first | (refine loadPx (.tmp 14) W.heap.size 0 CC (askC x a) tyAsk rfl PA.out OG0.out rfl rfl rfl ?_) | (refine storeX (.tmp 3) (.tmp 15) _ (askC x a) _ tyAsk rfl (askC_one _ _) (heap_alloc_new _ _) rfl rfl rfl rfl rfl ?_; rw [setRowG_fold]))
  rw [← HV.out]
  (try rw [← HXGa.out])
  clear HV HXGa
  clear OG0
  have OG0 := G0
  have LB := Lib.hid HB.out.size
  have LTG0 := Lib.hid (show W.heap.size < V1.heap.size from Bx.lt G0.out)
  have LTGa := Lib.hid (show ga < V1.heap.size from Bx.lt Ga.out)
  obtain ⟨V2, hV2⟩ : ∃ V, V = V1.alloc (.cells (askC y b) 24) := ⟨_, rfl⟩
  have ha := (Below.refl V1.heap.size V1).alloc (Nat.le_refl _) (.cells (askC y b) 24)
  have hg := heap_alloc_new V1 (.cells (askC y b) 24)
  have nHB := Lib.hid (HB.out.alloc HB.out.size (.cells (askC y b) 24))
  rw [← hV2] at ha hg nHB
  have nRA := Lib.hid (RA.out.go ha)
  have nRB := Lib.hid (RB.out.go ha)
  have nRK := Lib.hid (RK.out.go ha)
  have nG0 := Lib.hid (Bx.go G0.out ha)
  have nGa := Lib.hid (Bx.go Ga.out ha)
  obtain ⟨gb, hgb⟩ : ∃ g, g = V1.heap.size := ⟨_, rfl⟩
  rw [← hgb] at hg
  have HXGb := Lib.hid hgb
  have Gb := Lib.hid hg
  have HV := Lib.hid hV2
  clear ha hg hV2 hgb
  clear HB RA RB RK G0 Ga
  have HB := nHB
  have RA := nRA
  have RB := nRB
  have RK := nRK
  have G0 := nG0
  have Ga := nGa
  clear nHB nRA nRB nRK nG0 nGa
  have LEGb := Lib.hid (show W.heap.size ≤ gb from by rw [HXGb.out]; exact LB.out)
  have NEG0Gb := Lib.hid (show W.heap.size ≠ gb from by have h1 := LTG0.out; rw [HXGb.out]; omega)
  have NEGbG0 := Lib.hid (NEG0Gb.out.symm)
  have NEGaGb := Lib.hid (show ga ≠ gb from by have h1 := LTGa.out; rw [HXGb.out]; omega)
  have NEGbGa := Lib.hid (NEGaGb.out.symm)
  clear LB LTG0 LTGa
  go_upto_region 3 with (first | (refine loadPx (.tmp 16) W.heap.size 5 CC (askC y b) tyAsk rfl PB.out OG0.out rfl rfl rfl ?_) | (refine storeX (.tmp 4) (.tmp 17) _ (askC y b) _ tyAsk rfl (askC_one _ _) (heap_alloc_new _ _) rfl rfl rfl rfl rfl ?_; rw [setRowG_fold]))
  rw [← HV.out]
  (try rw [← HXGb.out])
  clear HV HXGb
  clear OG0
  have x10 := Bx.cell G0.out HC10.out
  have x11 := Bx.cell G0.out HC11.out
  have x12 := Bx.cell G0.out HC12.out
  go_wp2_with fail
  clear x10 x11 x12
  refine (shown15_any _ (HT.out.below HB.out)).mono ?_
  rintro e w3 ⟨rfl, hb⟩
  have nHB := Lib.hid (belG HB.out hb HB.out.size)
  have nRA := Lib.hid (RA.out.go hb)
  have nRB := Lib.hid (RB.out.go hb)
  have nRK := Lib.hid (RK.out.go hb)
  have nG0 := Lib.hid (Bx.go G0.out hb)
  have nGa := Lib.hid (Bx.go Ga.out hb)
  have nGb := Lib.hid (Bx.go Gb.out hb)
  clear hb
  clear HB RA RB RK G0 Ga Gb
  have HB := nHB
  have RA := nRA
  have RB := nRB
  have RK := nRK
  have G0 := nG0
  have Ga := nGa
  have Gb := nGb
  clear nHB nRA nRB nRK nG0 nGa nGb
  clear G0
  go_upto_region 7 with fail
  have xa := HXA.out _ _ Ga.out
  have xb := HXB.out _ _ Gb.out
  clear HXA HXB
  by_cases hna : 1000 < na
  case pos =>
    have i1 : (1000 : Int) < (na : Int) := by omega
    go_wp2_with fail
    go_ret
    exact ⟨by first | rfl | (simp; done), HB.out⟩
  have i1 : ¬ (1000 : Int) < (na : Int) := by omega
  by_cases hnb : 1000 < nb
  case pos =>
    have i2 : (1000 : Int) < (nb : Int) := by omega
    go_wp2_with fail
    go_ret
    exact ⟨by first | rfl | (simp; done), HB.out⟩
  have i2 : ¬ (1000 : Int) < (nb : Int) := by omega
  by_cases hmk : 1000 < m
  case pos =>
    have i3 : (1000 : Int) < (m : Int) := by omega
    go_wp2_with fail
    go_ret
    exact ⟨by first | rfl | (simp; done), HB.out⟩
  have i3 : ¬ (1000 : Int) < (m : Int) := by omega
  have HLA := Lib.hid (show a.body.length ≤ 50000 from by have := HNA.out; omega)
  have HLB := Lib.hid (show b.body.length ≤ 50000 from by have := HNB.out; omega)
  have EB := Lib.hid (fun w hT (h : KeyB w z l) => aBegin_any c s z l w hT HS64.out.2.2.1 HS64.out.2.2.2 (by have := HM.out; omega) h)
  have DB := Lib.hid (fun w (h : KeyB w z l) => begin15_any c s z l w h)
  rw [← HM.out] at EB DB
  obtain ⟨q, hq⟩ : ∃ q, q = (beginA c s l).1 := ⟨_, rfl⟩
  obtain ⟨qe, hqe⟩ : ∃ q, q = (beginA c s l).2 := ⟨_, rfl⟩
  rw [← hq, ← hqe] at EB DB
  have DR := Lib.hid (fun w => right15_any x a w)
  have ER := Lib.hid (fun w hT h => aRight_any x a w hT HS64.out.1 HLA.out h)
  have SQ := Lib.hid (fun u v w h k => same15_any u v q q w h k)
  rw [decide_eq_true (rfl : q = q)] at SQ
  have ES := Lib.hid (fun w hT h k => aSame_any x y a b w hT HS64.out.1 HS64.out.2.1 HLA.out HLB.out h k)
  have DS := Lib.hid (fun w h k => same15_any x y a b w h k)
  have EN := Lib.hid (fun w hT => aStan_any s w hT HS64.out.2.2.2)
  have DN := Lib.hid (fun w => stan15_any s w)
  have EK := Lib.hid (fun w hT => aKnown_any c w hT HS64.out.2.2.1)
  have DK := Lib.hid (fun w => known15_any c w)
  have EM := Lib.hid (fun w hT hR h => aMatch_any x a c s w hT hR HS64.out.2.2.1 HS64.out.2.2.2 h)
  have DM := Lib.hid (fun w => match15_any x a c s w)
  generalize decide (a = b) = ab at *
  generalize stanA s = st at *
  generalize knownA c = kn at *
  generalize decide (MatchA a c s) = mt at *
  have q1 : (qe != qe) = false := by simp
  have q2 : (st != st) = false := by simp
  have q3 : (kn != kn) = false := by cases kn <;> rfl
  have q4 : (ab != ab) = false := by cases ab <;> rfl
  have q5 : (mt == mt) = true := by cases mt <;> rfl
  have HQ := Lib.hid (show (RightA a → decide (RightA a) = true) ∧ (¬ RightA a → decide (RightA a) = false) from ⟨decide_eq_true, decide_eq_false⟩)
  clear hq hqe hmk hna hnb
  go_upto_region 9 with fail
  clear xa xb
  go_wp2_with fail
  refine (EB.out _ (HT.out.below HB.out) RK.out).mono ?_
  rintro e w4 ⟨⟨u, rfl, hk⟩, hb⟩
  have nHB := Lib.hid (belG HB.out hb HB.out.size)
  have nRA := Lib.hid (RA.out.go hb)
  have nRB := Lib.hid (RB.out.go hb)
  have nRK := Lib.hid (RK.out.go hb)
  have nGa := Lib.hid (Bx.go Ga.out hb)
  have nGb := Lib.hid (Bx.go Gb.out hb)
  clear hb
  clear HB RA RB RK Ga Gb
  have HB := nHB
  have RA := nRA
  have RB := nRB
  have RK := nRK
  have Ga := nGa
  have Gb := nGb
  clear nHB nRA nRB nRK nGa nGb
  have RGx := Lib.hid hk
  clear hk
  have LB := Lib.hid HB.out.size
  have LTGa := Lib.hid (show ga < w4.heap.size from Bx.lt Ga.out)
  have LTGb := Lib.hid (show gb < w4.heap.size from Bx.lt Gb.out)
  obtain ⟨V4, hV4⟩ : ∃ V, V = w4.alloc (.cells (askC u q) 24) := ⟨_, rfl⟩
  have ha := (Below.refl w4.heap.size w4).alloc (Nat.le_refl _) (.cells (askC u q) 24)
  have hg := heap_alloc_new w4 (.cells (askC u q) 24)
  have nHB := Lib.hid (HB.out.alloc HB.out.size (.cells (askC u q) 24))
  rw [← hV4] at ha hg nHB
  have nRA := Lib.hid (RA.out.go ha)
  have nRB := Lib.hid (RB.out.go ha)
  have nRK := Lib.hid (RK.out.go ha)
  have nRGx := Lib.hid (RGx.out.go ha)
  have nGa := Lib.hid (Bx.go Ga.out ha)
  have nGb := Lib.hid (Bx.go Gb.out ha)
  obtain ⟨gx, hgx⟩ : ∃ g, g = w4.heap.size := ⟨_, rfl⟩
  rw [← hgx] at hg
  have HXGx := Lib.hid hgx
  have Gx := Lib.hid hg
  have HV := Lib.hid hV4
  clear ha hg hV4 hgx
  clear HB RA RB RK RGx Ga Gb
  have HB := nHB
  have RA := nRA
  have RB := nRB
  have RK := nRK
  have RGx := nRGx
  have Ga := nGa
  have Gb := nGb
  clear nHB nRA nRB nRK nRGx nGa nGb
  have LEGx := Lib.hid (show W.heap.size ≤ gx from by rw [HXGx.out]; exact LB.out)
  have NEGaGx := Lib.hid (show ga ≠ gx from by have h1 := LTGa.out; rw [HXGx.out]; omega)
  have NEGxGa := Lib.hid (NEGaGx.out.symm)
  have NEGbGx := Lib.hid (show gb ≠ gx from by have h1 := LTGb.out; rw [HXGx.out]; omega)
  have NEGxGb := Lib.hid (NEGbGx.out.symm)
  clear LB LTGa LTGb
  go_upto_region 10 with (refine storeX (.tmp 9) (.tmp 46) _ (askC u q) _ tyAsk rfl (askC_one _ _) (heap_alloc_new _ _) rfl rfl rfl rfl rfl ?_; rw [setRowG_fold])
  rw [← HV.out]
  (try rw [← HXGx.out])
  clear HV HXGx
  go_wp2_with fail
  refine (DB.out _ RK.out).mono ?_
  rintro e w5 ⟨⟨v, rfl, hk⟩, hb⟩
  have nHB := Lib.hid (belG HB.out hb HB.out.size)
  have nRA := Lib.hid (RA.out.go hb)
  have nRB := Lib.hid (RB.out.go hb)
  have nRK := Lib.hid (RK.out.go hb)
  have nRGx := Lib.hid (RGx.out.go hb)
  have nGa := Lib.hid (Bx.go Ga.out hb)
  have nGb := Lib.hid (Bx.go Gb.out hb)
  have nGx := Lib.hid (Bx.go Gx.out hb)
  clear hb
  clear HB RA RB RK RGx Ga Gb Gx
  have HB := nHB
  have RA := nRA
  have RB := nRB
  have RK := nRK
  have RGx := nRGx
  have Ga := nGa
  have Gb := nGb
  have Gx := nGx
  clear nHB nRA nRB nRK nRGx nGa nGb nGx
  have RGy := Lib.hid hk
  clear hk
  have LB := Lib.hid HB.out.size
  have LTGa := Lib.hid (show ga < w5.heap.size from Bx.lt Ga.out)
  have LTGb := Lib.hid (show gb < w5.heap.size from Bx.lt Gb.out)
  have LTGx := Lib.hid (show gx < w5.heap.size from Bx.lt Gx.out)
  obtain ⟨V5, hV5⟩ : ∃ V, V = w5.alloc (.cells (askC v q) 24) := ⟨_, rfl⟩
  have ha := (Below.refl w5.heap.size w5).alloc (Nat.le_refl _) (.cells (askC v q) 24)
  have hg := heap_alloc_new w5 (.cells (askC v q) 24)
  have nHB := Lib.hid (HB.out.alloc HB.out.size (.cells (askC v q) 24))
  rw [← hV5] at ha hg nHB
  have nRA := Lib.hid (RA.out.go ha)
  have nRB := Lib.hid (RB.out.go ha)
  have nRK := Lib.hid (RK.out.go ha)
  have nRGx := Lib.hid (RGx.out.go ha)
  have nRGy := Lib.hid (RGy.out.go ha)
  have nGa := Lib.hid (Bx.go Ga.out ha)
  have nGb := Lib.hid (Bx.go Gb.out ha)
  have nGx := Lib.hid (Bx.go Gx.out ha)
  obtain ⟨gy, hgy⟩ : ∃ g, g = w5.heap.size := ⟨_, rfl⟩
  rw [← hgy] at hg
  have HXGy := Lib.hid hgy
  have Gy := Lib.hid hg
  have HV := Lib.hid hV5
  clear ha hg hV5 hgy
  clear HB RA RB RK RGx RGy Ga Gb Gx
  have HB := nHB
  have RA := nRA
  have RB := nRB
  have RK := nRK
  have RGx := nRGx
  have RGy := nRGy
  have Ga := nGa
  have Gb := nGb
  have Gx := nGx
  clear nHB nRA nRB nRK nRGx nRGy nGa nGb nGx
  have LEGy := Lib.hid (show W.heap.size ≤ gy from by rw [HXGy.out]; exact LB.out)
  have NEGaGy := Lib.hid (show ga ≠ gy from by have h1 := LTGa.out; rw [HXGy.out]; omega)
  have NEGyGa := Lib.hid (NEGaGy.out.symm)
  have NEGbGy := Lib.hid (show gb ≠ gy from by have h1 := LTGb.out; rw [HXGy.out]; omega)
  have NEGyGb := Lib.hid (NEGbGy.out.symm)
  have NEGxGy := Lib.hid (show gx ≠ gy from by have h1 := LTGx.out; rw [HXGy.out]; omega)
  have NEGyGx := Lib.hid (NEGxGy.out.symm)
  clear LB LTGa LTGb LTGx
  go_upto_region 11 with (refine storeX (.tmp 11) (.tmp 53) _ (askC v q) _ tyAsk rfl (askC_one _ _) (heap_alloc_new _ _) rfl rfl rfl rfl rfl ?_; rw [setRowG_fold])
  rw [← HV.out]
  (try rw [← HXGy.out])
  clear HV HXGy
  go_wp2_with (refine loadX (.tmp 3) ga (askC x a) tyAsk rfl Ga.out rfl rfl rfl ?_)
  refine (DR.out _).mono ?_
  rintro e w6 ⟨rfl, hb⟩
  have nHB := Lib.hid (belG HB.out hb HB.out.size)
  have nRA := Lib.hid (RA.out.go hb)
  have nRB := Lib.hid (RB.out.go hb)
  have nRK := Lib.hid (RK.out.go hb)
  have nRGx := Lib.hid (RGx.out.go hb)
  have nRGy := Lib.hid (RGy.out.go hb)
  have nGa := Lib.hid (Bx.go Ga.out hb)
  have nGb := Lib.hid (Bx.go Gb.out hb)
  have nGx := Lib.hid (Bx.go Gx.out hb)
  have nGy := Lib.hid (Bx.go Gy.out hb)
  clear hb
  clear HB RA RB RK RGx RGy Ga Gb Gx Gy
  have HB := nHB
  have RA := nRA
  have RB := nRB
  have RK := nRK
  have RGx := nRGx
  have RGy := nRGy
  have Ga := nGa
  have Gb := nGb
  have Gx := nGx
  have Gy := nGy
  clear nHB nRA nRB nRK nRGx nRGy nGa nGb nGx nGy
  by_cases hR : RightA a
  · rw [decide_eq_true hR] at ER ⊢
    go_upto_region 12 with fail
    have BB0 := Lib.hid ((Below.refl w6.heap.size w6).drew)
    have KEEP := Lib.hid (fun w' (hW : Below w6.heap.size w6 w') => (show Below w6.heap.size w6 w' from hW))
    refine wp_region_noPanic ?_
    refine wp_region_held_drew (S := fun w' => Below w6.heap.size w6 w') (by kernel_rfl) (KEEP.out _ BB0.out) (fun hHeld => ?_)
    obtain ⟨wz0, hwz⟩ : ∃ x, x = w6.drew := ⟨_, rfl⟩
    rw [← hwz] at BB0 hHeld ⊢
    clear hwz
    refine wpAnyH_take (i := 0) (oi := ?_) (v := .agg (askC u q)) ?_ (by kernel_rfl) (by decide +kernel) (by decide +kernel) (fun _ _ _ h => h) ?_ (by assumption) ?_
    rotate_left 1
    focus (simp only [List.getElem?_toArray, List.getElem?_cons_zero] <;> rfl)
    · refine yieldsX (T := 24) ?_ (.tmp 9) ?_ ⟨gx, 0, none⟩ ?_ (askC u q) ?_
      focus rfl
      focus exact rfl
      focus exact rfl
      exact fun w hSw => run_loadX tyAsk rfl (Bx.go Gx.out hSw)
    (try simp only [Act.put, List.setIfInBounds_toArray, List.set_cons_zero, List.set_cons_succ])
    refine wpAnyH_take (i := 1) (oi := ?_) (v := .agg (askC v q)) ?_ (by kernel_rfl) (by decide +kernel) (by decide +kernel) (fun _ _ _ h => h) ?_ (by assumption) ?_
    rotate_left 1
    focus (simp only [List.getElem?_toArray, List.getElem?_cons_succ, List.getElem?_cons_zero] <;> rfl)
    · refine yieldsX (T := 24) ?_ (.tmp 11) ?_ ⟨gy, 0, none⟩ ?_ (askC v q) ?_
      focus rfl
      focus exact rfl
      focus exact rfl
      exact fun w hSw => run_loadX tyAsk rfl (Bx.go Gy.out hSw)
    (try simp only [Act.put, List.setIfInBounds_toArray, List.set_cons_zero, List.set_cons_succ])
    refine wpAnyH_ready (rs := [2]) (by decide +kernel) (by simp) ?_
    refine AllReadyH.cons rfl (fun K hK => ?_) AllReadyH.nil
    go_simp
    go_at_call 12
    refine (SQ.out u v _ (RGx.out.go BB0.out) (RGy.out.go BB0.out)).mono ?_
    rintro e wz1 ⟨rfl, hb⟩
    have BB1 := Lib.hid (belG BB0.out hb BB0.out.size)
    clear hb
    refine hK.out _ _ (KEEP.out _ BB1.out) (fun hHeld => ?_)
    clear hK K
    (try simp only [Act.put, List.setIfInBounds_toArray, List.set_cons_zero, List.set_cons_succ])
    refine wpAnyH_take (i := 3) (oi := ?_) (v := ?_) ?_ (by kernel_rfl) (by decide +kernel) (by decide +kernel) (fun _ _ _ h => h) ?_ (by assumption) ?_
    rotate_left 2
    focus (simp only [List.getElem?_toArray, List.getElem?_cons_succ, List.getElem?_cons_zero] <;> rfl)
    · refine Or.inl ⟨by rfl, ?_⟩
      intro w hSw
      (try dsimp only at hSw)
      go_simp <;> with_reducible rfl
    (try simp only [Act.put, List.setIfInBounds_toArray, List.set_cons_zero, List.set_cons_succ])
    refine wpAnyH_take (i := 4) (oi := ?_) (v := ?_) ?_ (by kernel_rfl) (by decide +kernel) (by decide +kernel) (fun _ _ _ h => h) ?_ (by assumption) ?_
    rotate_left 2
    focus (simp only [List.getElem?_toArray, List.getElem?_cons_succ, List.getElem?_cons_zero] <;> rfl)
    · refine Or.inl ⟨by rfl, ?_⟩
      intro w hSw
      (try dsimp only at hSw)
      go_simp <;> with_reducible rfl
    (try simp only [Act.put, List.setIfInBounds_toArray, List.set_cons_zero, List.set_cons_succ])
    refine wpAnyH_take (i := 5) (oi := ?_) (v := ?_) ?_ (by kernel_rfl) (by decide +kernel) (by decide +kernel) (fun _ _ _ h => h) ?_ (by assumption) ?_
    rotate_left 2
    focus (simp only [List.getElem?_toArray, List.getElem?_cons_succ, List.getElem?_cons_zero] <;> rfl)
    · refine Or.inl ⟨by rfl, ?_⟩
      intro w hSw
      (try dsimp only at hSw)
      go_simp <;> with_reducible rfl
    (try simp only [Act.put, List.setIfInBounds_toArray, List.set_cons_zero, List.set_cons_succ])
    refine wpAnyH_take (i := 6) (oi := ?_) (v := ?_) ?_ (by kernel_rfl) (by decide +kernel) (by decide +kernel) (fun _ _ _ h => h) ?_ (by assumption) ?_
    rotate_left 2
    focus (simp only [List.getElem?_toArray, List.getElem?_cons_succ, List.getElem?_cons_zero] <;> rfl)
    · refine Or.inl ⟨by rfl, ?_⟩
      intro w hSw
      (try dsimp only at hSw)
      go_simp <;> with_reducible rfl
    (try simp only [Act.put, List.setIfInBounds_toArray, List.set_cons_zero, List.set_cons_succ])
    refine wpAnyH_take (i := 7) (oi := ?_) (v := ?_) ?_ (by kernel_rfl) (by decide +kernel) (by decide +kernel) (fun _ _ _ h => h) ?_ (by assumption) ?_
    rotate_left 2
    focus (simp only [List.getElem?_toArray, List.getElem?_cons_succ, List.getElem?_cons_zero] <;> rfl)
    · refine Or.inl ⟨by rfl, ?_⟩
      intro w hSw
      (try dsimp only at hSw)
      go_simp <;> with_reducible rfl
    (try simp only [Act.put, List.setIfInBounds_toArray, List.set_cons_zero, List.set_cons_succ])
    refine wpAnyH_take (i := 8) (oi := ?_) (v := ?_) ?_ (by kernel_rfl) (by decide +kernel) (by decide +kernel) (fun _ _ _ h => h) ?_ (by assumption) ?_
    rotate_left 2
    focus (simp only [List.getElem?_toArray, List.getElem?_cons_succ, List.getElem?_cons_zero] <;> rfl)
    · refine Or.inl ⟨by rfl, ?_⟩
      intro w hSw
      (try dsimp only at hSw)
      go_simp <;> with_reducible rfl
    (try simp only [Act.put, List.setIfInBounds_toArray, List.set_cons_zero, List.set_cons_succ])
    refine wpAnyH_take (i := 9) (oi := ?_) (v := ?_) ?_ (by kernel_rfl) (by decide +kernel) (by decide +kernel) (fun _ _ _ h => h) ?_ (by assumption) ?_
    rotate_left 2
    focus (simp only [List.getElem?_toArray, List.getElem?_cons_succ, List.getElem?_cons_zero] <;> rfl)
    · refine Or.inl ⟨by rfl, ?_⟩
      intro w hSw
      (try dsimp only at hSw)
      go_simp <;> with_reducible rfl
    (try simp only [Act.put, List.setIfInBounds_toArray, List.set_cons_zero, List.set_cons_succ])
    refine wpAnyH_take (i := 10) (oi := ?_) (v := ?_) ?_ (by kernel_rfl) (by decide +kernel) (by decide +kernel) (fun _ _ _ h => h) ?_ (by assumption) ?_
    rotate_left 2
    focus (simp only [List.getElem?_toArray, List.getElem?_cons_succ, List.getElem?_cons_zero] <;> rfl)
    · refine Or.inl ⟨by rfl, ?_⟩
      intro w hSw
      (try dsimp only at hSw)
      go_simp <;> with_reducible rfl
    (try simp only [Act.put, List.setIfInBounds_toArray, List.set_cons_zero, List.set_cons_succ])
    refine wpAnyH_take (i := 12) (oi := ?_) (v := ?_) ?_ (by kernel_rfl) (by decide +kernel) (by decide +kernel) (fun _ _ _ h => h) ?_ (by assumption) ?_
    rotate_left 2
    focus (simp only [List.getElem?_toArray, List.getElem?_cons_succ, List.getElem?_cons_zero] <;> rfl)
    · refine Or.inl ⟨by rfl, ?_⟩
      intro w hSw
      (try dsimp only at hSw)
      go_simp <;> with_reducible rfl
    (try simp only [Act.put, List.setIfInBounds_toArray, List.set_cons_zero, List.set_cons_succ])
    refine wpAnyH_ready (rs := [11]) (by decide +kernel) (by simp) ?_
    refine AllReadyH.cons rfl (fun K hK => ?_) AllReadyH.nil
    go_simp
    go_at_call 13
    refine (EN.out _ (HT.out.below (belG HB.out BB1.out HB.out.size))).mono ?_
    rintro e wz2 ⟨rfl, hb⟩
    have BB2 := Lib.hid (belG BB1.out hb BB1.out.size)
    clear hb
    refine hK.out _ _ (KEEP.out _ BB2.out) (fun hHeld => ?_)
    clear hK K
    (try simp only [Act.put, List.setIfInBounds_toArray, List.set_cons_zero, List.set_cons_succ])
    refine wpAnyH_ready (rs := [13]) (by decide +kernel) (by simp) ?_
    refine AllReadyH.cons rfl (fun K hK => ?_) AllReadyH.nil
    go_simp
    go_at_call 14
    refine (DN.out _).mono ?_
    rintro e wz3 ⟨rfl, hw⟩
    obtain rfl := hw
    refine hK.out _ _ (KEEP.out _ BB2.out) (fun hHeld => ?_)
    clear hK K
    (try simp only [Act.put, List.setIfInBounds_toArray, List.set_cons_zero, List.set_cons_succ])
    refine wpAnyH_take (i := 14) (oi := ?_) (v := ?_) ?_ (by kernel_rfl) (by decide +kernel) (by decide +kernel) (fun _ _ _ h => h) ?_ (by assumption) ?_
    rotate_left 2
    focus (simp only [List.getElem?_toArray, List.getElem?_cons_succ, List.getElem?_cons_zero] <;> rfl)
    · refine Or.inl ⟨by rfl, ?_⟩
      intro w hSw
      (try dsimp only at hSw)
      go_simp <;> with_reducible rfl
    (try simp only [Act.put, List.setIfInBounds_toArray, List.set_cons_zero, List.set_cons_succ])
    refine wpAnyH_take (i := 15) (oi := ?_) (v := ?_) ?_ (by kernel_rfl) (by decide +kernel) (by decide +kernel) (fun _ _ _ h => h) ?_ (by assumption) ?_
    rotate_left 2
    focus (simp only [List.getElem?_toArray, List.getElem?_cons_succ, List.getElem?_cons_zero] <;> rfl)
    · refine Or.inl ⟨by rfl, ?_⟩
      intro w hSw
      (try dsimp only at hSw)
      go_simp <;> with_reducible rfl
    (try simp only [Act.put, List.setIfInBounds_toArray, List.set_cons_zero, List.set_cons_succ])
    refine wpAnyH_take (i := 16) (oi := ?_) (v := ?_) ?_ (by kernel_rfl) (by decide +kernel) (by decide +kernel) (fun _ _ _ h => h) ?_ (by assumption) ?_
    rotate_left 2
    focus (simp only [List.getElem?_toArray, List.getElem?_cons_succ, List.getElem?_cons_zero] <;> rfl)
    · refine Or.inl ⟨by rfl, ?_⟩
      intro w hSw
      (try dsimp only at hSw)
      go_simp <;> with_reducible rfl
    (try simp only [Act.put, List.setIfInBounds_toArray, List.set_cons_zero, List.set_cons_succ])
    refine wpAnyH_take (i := 17) (oi := ?_) (v := ?_) ?_ (by kernel_rfl) (by decide +kernel) (by decide +kernel) (fun _ _ _ h => h) ?_ (by assumption) ?_
    rotate_left 2
    focus (simp only [List.getElem?_toArray, List.getElem?_cons_succ, List.getElem?_cons_zero] <;> rfl)
    · refine Or.inl ⟨by rfl, ?_⟩
      intro w hSw
      (try dsimp only at hSw)
      go_simp <;> with_reducible rfl
    (try simp only [Act.put, List.setIfInBounds_toArray, List.set_cons_zero, List.set_cons_succ])
    refine wpAnyH_take (i := 19) (oi := ?_) (v := ?_) ?_ (by kernel_rfl) (by decide +kernel) (by decide +kernel) (fun _ _ _ h => h) ?_ (by assumption) ?_
    rotate_left 2
    focus (simp only [List.getElem?_toArray, List.getElem?_cons_succ, List.getElem?_cons_zero] <;> rfl)
    · refine Or.inl ⟨by rfl, ?_⟩
      intro w hSw
      (try dsimp only at hSw)
      go_simp <;> with_reducible rfl
    (try simp only [Act.put, List.setIfInBounds_toArray, List.set_cons_zero, List.set_cons_succ])
    refine wpAnyH_ready (rs := [18]) (by decide +kernel) (by simp) ?_
    refine AllReadyH.cons rfl (fun K hK => ?_) AllReadyH.nil
    go_simp
    go_at_call 15
    refine (EK.out _ (HT.out.below (belG HB.out BB2.out HB.out.size))).mono ?_
    rintro e wz4 ⟨rfl, hb⟩
    have BB4 := Lib.hid (belG BB2.out hb BB2.out.size)
    clear hb
    refine hK.out _ _ (KEEP.out _ BB4.out) (fun hHeld => ?_)
    clear hK K
    (try simp only [Act.put, List.setIfInBounds_toArray, List.set_cons_zero, List.set_cons_succ])
    refine wpAnyH_ready (rs := [20]) (by decide +kernel) (by simp) ?_
    refine AllReadyH.cons rfl (fun K hK => ?_) AllReadyH.nil
    go_simp
    go_at_call 16
    refine (DK.out _).mono ?_
    rintro e wz5 ⟨rfl, hw⟩
    obtain rfl := hw
    refine hK.out _ _ (KEEP.out _ BB4.out) (fun hHeld => ?_)
    clear hK K
    (try simp only [Act.put, List.setIfInBounds_toArray, List.set_cons_zero, List.set_cons_succ])
    refine wpAnyH_take (i := 21) (oi := ?_) (v := ?_) ?_ (by kernel_rfl) (by decide +kernel) (by decide +kernel) (fun _ _ _ h => h) ?_ (by assumption) ?_
    rotate_left 2
    focus (simp only [List.getElem?_toArray, List.getElem?_cons_succ, List.getElem?_cons_zero] <;> rfl)
    · refine Or.inl ⟨by rfl, ?_⟩
      intro w hSw
      (try dsimp only at hSw)
      go_simp <;> with_reducible rfl
    (try simp only [Act.put, List.setIfInBounds_toArray, List.set_cons_zero, List.set_cons_succ])
    refine wpAnyH_take (i := 22) (oi := ?_) (v := ?_) ?_ (by kernel_rfl) (by decide +kernel) (by decide +kernel) (fun _ _ _ h => h) ?_ (by assumption) ?_
    rotate_left 2
    focus (simp only [List.getElem?_toArray, List.getElem?_cons_succ, List.getElem?_cons_zero] <;> rfl)
    · refine Or.inl ⟨by rfl, ?_⟩
      intro w hSw
      (try dsimp only at hSw)
      go_simp <;> with_reducible rfl
    (try simp only [Act.put, List.setIfInBounds_toArray, List.set_cons_zero, List.set_cons_succ])
    refine wpAnyH_take (i := 23) (oi := ?_) (v := ?_) ?_ (by kernel_rfl) (by decide +kernel) (by decide +kernel) (fun _ _ _ h => h) ?_ (by assumption) ?_
    rotate_left 2
    focus (simp only [List.getElem?_toArray, List.getElem?_cons_succ, List.getElem?_cons_zero] <;> rfl)
    · refine Or.inl ⟨by rfl, ?_⟩
      intro w hSw
      (try dsimp only at hSw)
      go_simp <;> with_reducible rfl
    (try simp only [Act.put, List.setIfInBounds_toArray, List.set_cons_zero, List.set_cons_succ])
    refine wpAnyH_take (i := 24) (oi := ?_) (v := .agg (askC x a)) ?_ (by kernel_rfl) (by decide +kernel) (by decide +kernel) (fun _ _ _ h => h) ?_ (by assumption) ?_
    rotate_left 1
    focus (simp only [List.getElem?_toArray, List.getElem?_cons_succ, List.getElem?_cons_zero] <;> rfl)
    · refine yieldsX (T := 24) ?_ (.tmp 3) ?_ ⟨ga, 0, none⟩ ?_ (askC x a) ?_
      focus rfl
      focus exact rfl
      focus exact rfl
      exact fun w hSw => run_loadX tyAsk rfl (Bx.go Ga.out hSw)
    (try simp only [Act.put, List.setIfInBounds_toArray, List.set_cons_zero, List.set_cons_succ])
    refine wpAnyH_take (i := 26) (oi := ?_) (v := ?_) ?_ (by kernel_rfl) (by decide +kernel) (by decide +kernel) (fun _ _ _ h => h) ?_ (by assumption) ?_
    rotate_left 2
    focus (simp only [List.getElem?_toArray, List.getElem?_cons_succ, List.getElem?_cons_zero] <;> rfl)
    · refine Or.inl ⟨by rfl, ?_⟩
      intro w hSw
      (try dsimp only at hSw)
      go_simp <;> with_reducible rfl
    (try simp only [Act.put, List.setIfInBounds_toArray, List.set_cons_zero, List.set_cons_succ])
    refine wpAnyH_ready (rs := [25]) (by decide +kernel) (by simp) ?_
    refine AllReadyH.cons rfl (fun K hK => ?_) AllReadyH.nil
    go_simp
    go_at_call 17
    refine (ER.out _ (HT.out.below (belG HB.out BB4.out HB.out.size)) (RA.out.go BB4.out)).mono ?_
    rintro e wz6 ⟨rfl, hb⟩
    have BB6 := Lib.hid (belG BB4.out hb BB4.out.size)
    clear hb
    refine hK.out _ _ (KEEP.out _ BB6.out) (fun hHeld => ?_)
    clear hK K
    (try simp only [Act.put, List.setIfInBounds_toArray, List.set_cons_zero, List.set_cons_succ])
    refine wpAnyH_take (i := 27) (oi := ?_) (v := ?_) ?_ (by kernel_rfl) (by decide +kernel) (by decide +kernel) (fun _ _ _ h => h) ?_ (by assumption) ?_
    rotate_left 2
    focus (simp only [List.getElem?_toArray, List.getElem?_cons_succ, List.getElem?_cons_zero] <;> rfl)
    · refine Or.inl ⟨by rfl, ?_⟩
      intro w hSw
      (try dsimp only at hSw)
      go_simp <;> with_reducible rfl
    (try simp only [Act.put, List.setIfInBounds_toArray, List.set_cons_zero, List.set_cons_succ])
    refine wpAnyH_take (i := 28) (oi := ?_) (v := ?_) ?_ (by kernel_rfl) (by decide +kernel) (by decide +kernel) (fun _ _ _ h => h) ?_ (by assumption) ?_
    rotate_left 2
    focus (simp only [List.getElem?_toArray, List.getElem?_cons_succ, List.getElem?_cons_zero] <;> rfl)
    · refine Or.inl ⟨by rfl, ?_⟩
      intro w hSw
      (try dsimp only at hSw)
      go_simp <;> with_reducible rfl
    (try simp only [Act.put, List.setIfInBounds_toArray, List.set_cons_zero, List.set_cons_succ])
    refine wpAnyH_take (i := 29) (oi := ?_) (v := ?_) ?_ (by kernel_rfl) (by decide +kernel) (by decide +kernel) (fun _ _ _ h => h) ?_ (by assumption) ?_
    rotate_left 2
    focus (simp only [List.getElem?_toArray, List.getElem?_cons_succ, List.getElem?_cons_zero] <;> rfl)
    · refine Or.inl ⟨by rfl, ?_⟩
      intro w hSw
      (try dsimp only at hSw)
      go_simp <;> with_reducible rfl
    (try simp only [Act.put, List.setIfInBounds_toArray, List.set_cons_zero, List.set_cons_succ])
    refine wpAnyH_take (i := 30) (oi := ?_) (v := .agg (askC x a)) ?_ (by kernel_rfl) (by decide +kernel) (by decide +kernel) (fun _ _ _ h => h) ?_ (by assumption) ?_
    rotate_left 1
    focus (simp only [List.getElem?_toArray, List.getElem?_cons_succ, List.getElem?_cons_zero] <;> rfl)
    · refine yieldsX (T := 24) ?_ (.tmp 3) ?_ ⟨ga, 0, none⟩ ?_ (askC x a) ?_
      focus rfl
      focus exact rfl
      focus exact rfl
      exact fun w hSw => run_loadX tyAsk rfl (Bx.go Ga.out hSw)
    (try simp only [Act.put, List.setIfInBounds_toArray, List.set_cons_zero, List.set_cons_succ])
    refine wpAnyH_take (i := 31) (oi := ?_) (v := .agg (askC y b)) ?_ (by kernel_rfl) (by decide +kernel) (by decide +kernel) (fun _ _ _ h => h) ?_ (by assumption) ?_
    rotate_left 1
    focus (simp only [List.getElem?_toArray, List.getElem?_cons_succ, List.getElem?_cons_zero] <;> rfl)
    · refine yieldsX (T := 24) ?_ (.tmp 4) ?_ ⟨gb, 0, none⟩ ?_ (askC y b) ?_
      focus rfl
      focus exact rfl
      focus exact rfl
      exact fun w hSw => run_loadX tyAsk rfl (Bx.go Gb.out hSw)
    (try simp only [Act.put, List.setIfInBounds_toArray, List.set_cons_zero, List.set_cons_succ])
    refine wpAnyH_take (i := 33) (oi := ?_) (v := .agg (askC x a)) ?_ (by kernel_rfl) (by decide +kernel) (by decide +kernel) (fun _ _ _ h => h) ?_ (by assumption) ?_
    rotate_left 1
    focus (simp only [List.getElem?_toArray, List.getElem?_cons_succ, List.getElem?_cons_zero] <;> rfl)
    · refine yieldsX (T := 24) ?_ (.tmp 3) ?_ ⟨ga, 0, none⟩ ?_ (askC x a) ?_
      focus rfl
      focus exact rfl
      focus exact rfl
      exact fun w hSw => run_loadX tyAsk rfl (Bx.go Ga.out hSw)
    (try simp only [Act.put, List.setIfInBounds_toArray, List.set_cons_zero, List.set_cons_succ])
    refine wpAnyH_take (i := 34) (oi := ?_) (v := .agg (askC y b)) ?_ (by kernel_rfl) (by decide +kernel) (by decide +kernel) (fun _ _ _ h => h) ?_ (by assumption) ?_
    rotate_left 1
    focus (simp only [List.getElem?_toArray, List.getElem?_cons_succ, List.getElem?_cons_zero] <;> rfl)
    · refine yieldsX (T := 24) ?_ (.tmp 4) ?_ ⟨gb, 0, none⟩ ?_ (askC y b) ?_
      focus rfl
      focus exact rfl
      focus exact rfl
      exact fun w hSw => run_loadX tyAsk rfl (Bx.go Gb.out hSw)
    (try simp only [Act.put, List.setIfInBounds_toArray, List.set_cons_zero, List.set_cons_succ])
    refine wpAnyH_ready (rs := [32]) (by decide +kernel) (by simp) ?_
    refine AllReadyH.cons rfl (fun K hK => ?_) AllReadyH.nil
    go_simp
    go_at_call 18
    refine (ES.out _ (HT.out.below (belG HB.out BB6.out HB.out.size)) (RA.out.go BB6.out) (RB.out.go BB6.out)).mono ?_
    rintro e wz7 ⟨rfl, hb⟩
    have BB7 := Lib.hid (belG BB6.out hb BB6.out.size)
    clear hb
    refine hK.out _ _ (KEEP.out _ BB7.out) (fun hHeld => ?_)
    clear hK K
    (try simp only [Act.put, List.setIfInBounds_toArray, List.set_cons_zero, List.set_cons_succ])
    refine wpAnyH_ready (rs := [35]) (by decide +kernel) (by simp) ?_
    refine AllReadyH.cons rfl (fun K hK => ?_) AllReadyH.nil
    go_simp
    go_at_call 12
    refine (DS.out _ (RA.out.go BB7.out) (RB.out.go BB7.out)).mono ?_
    rintro e wz8 ⟨rfl, hb⟩
    have BB8 := Lib.hid (belG BB7.out hb BB7.out.size)
    clear hb
    refine hK.out _ _ (KEEP.out _ BB8.out) (fun hHeld => ?_)
    clear hK K
    (try simp only [Act.put, List.setIfInBounds_toArray, List.set_cons_zero, List.set_cons_succ])
    refine wpAnyH_take (i := 36) (oi := ?_) (v := ?_) ?_ (by kernel_rfl) (by decide +kernel) (by decide +kernel) (fun _ _ _ h => h) ?_ (by assumption) ?_
    rotate_left 2
    focus (simp only [List.getElem?_toArray, List.getElem?_cons_succ, List.getElem?_cons_zero] <;> rfl)
    · refine Or.inl ⟨by rfl, ?_⟩
      intro w hSw
      (try dsimp only at hSw)
      go_simp <;> with_reducible rfl
    (try simp only [Act.put, List.setIfInBounds_toArray, List.set_cons_zero, List.set_cons_succ])
    refine wpAnyH_take (i := 37) (oi := ?_) (v := ?_) ?_ (by kernel_rfl) (by decide +kernel) (by decide +kernel) (fun _ _ _ h => h) ?_ (by assumption) ?_
    rotate_left 2
    focus (simp only [List.getElem?_toArray, List.getElem?_cons_succ, List.getElem?_cons_zero] <;> rfl)
    · refine Or.inl ⟨by rfl, ?_⟩
      intro w hSw
      (try dsimp only at hSw)
      go_simp <;> with_reducible rfl
    (try simp only [Act.put, List.setIfInBounds_toArray, List.set_cons_zero, List.set_cons_succ])
    refine wpAnyH_done (by decide +kernel) ?_ _
    refine NoPanic.normal ?_
    clear KEEP
    obtain ⟨w7, hw⟩ : ∃ x, x = wz8 := ⟨_, rfl⟩
    have hb : Below w6.heap.size w6 w7 := by rw [hw]; exact BB8.out
    rw [← hw]
    have nHB := Lib.hid (belG HB.out hb HB.out.size)
    have nRA := Lib.hid (RA.out.go hb)
    have nRB := Lib.hid (RB.out.go hb)
    have nRK := Lib.hid (RK.out.go hb)
    have nRGx := Lib.hid (RGx.out.go hb)
    have nRGy := Lib.hid (RGy.out.go hb)
    have nGa := Lib.hid (Bx.go Ga.out hb)
    have nGb := Lib.hid (Bx.go Gb.out hb)
    have nGx := Lib.hid (Bx.go Gx.out hb)
    have nGy := Lib.hid (Bx.go Gy.out hb)
    clear hb hw
    clear HB RA RB RK RGx RGy Ga Gb Gx Gy
    have HB := nHB
    have RA := nRA
    have RB := nRB
    have RK := nRK
    have RGx := nRGx
    have RGy := nRGy
    have Ga := nGa
    have Gb := nGb
    have Gx := nGx
    have Gy := nGy
    clear nHB nRA nRB nRK nRGx nRGy nGa nGb nGx nGy
    go_upto_region 14 with fail
    have BB0 := Lib.hid ((Below.refl w7.heap.size w7).drew)
    have KEEP := Lib.hid (fun w' (hW : Below w7.heap.size w7 w') => (show Below w7.heap.size w7 w' from hW))
    refine wp_region_noPanic ?_
    refine wp_region_held_drew (S := fun w' => Below w7.heap.size w7 w') (by kernel_rfl) (KEEP.out _ BB0.out) (fun hHeld => ?_)
    obtain ⟨wz0, hwz⟩ : ∃ x, x = w7.drew := ⟨_, rfl⟩
    rw [← hwz] at BB0 hHeld ⊢
    clear hwz
    refine wpAnyH_take (i := 0) (oi := ?_) (v := ?_) ?_ (by kernel_rfl) (by decide +kernel) (by decide +kernel) (fun _ _ _ h => h) ?_ (by assumption) ?_
    rotate_left 2
    focus (simp only [List.getElem?_toArray, List.getElem?_cons_zero] <;> rfl)
    · refine Or.inl ⟨by rfl, ?_⟩
      intro w hSw
      (try dsimp only at hSw)
      go_simp <;> with_reducible rfl
    (try simp only [Act.put, List.setIfInBounds_toArray, List.set_cons_zero, List.set_cons_succ])
    refine wpAnyH_take (i := 1) (oi := ?_) (v := ?_) ?_ (by kernel_rfl) (by decide +kernel) (by decide +kernel) (fun _ _ _ h => h) ?_ (by assumption) ?_
    rotate_left 2
    focus (simp only [List.getElem?_toArray, List.getElem?_cons_succ, List.getElem?_cons_zero] <;> rfl)
    · refine Or.inl ⟨by rfl, ?_⟩
      intro w hSw
      (try dsimp only at hSw)
      go_simp <;> with_reducible rfl
    (try simp only [Act.put, List.setIfInBounds_toArray, List.set_cons_zero, List.set_cons_succ])
    refine wpAnyH_take (i := 2) (oi := ?_) (v := ?_) ?_ (by kernel_rfl) (by decide +kernel) (by decide +kernel) (fun _ _ _ h => h) ?_ (by assumption) ?_
    rotate_left 2
    focus (simp only [List.getElem?_toArray, List.getElem?_cons_succ, List.getElem?_cons_zero] <;> rfl)
    · refine Or.inl ⟨by rfl, ?_⟩
      intro w hSw
      (try dsimp only at hSw)
      go_simp <;> with_reducible rfl
    (try simp only [Act.put, List.setIfInBounds_toArray, List.set_cons_zero, List.set_cons_succ])
    refine wpAnyH_take (i := 3) (oi := ?_) (v := ?_) ?_ (by kernel_rfl) (by decide +kernel) (by decide +kernel) (fun _ _ _ h => h) ?_ (by assumption) ?_
    rotate_left 2
    focus (simp only [List.getElem?_toArray, List.getElem?_cons_succ, List.getElem?_cons_zero] <;> rfl)
    · refine Or.inl ⟨by rfl, ?_⟩
      intro w hSw
      (try dsimp only at hSw)
      go_simp <;> with_reducible rfl
    (try simp only [Act.put, List.setIfInBounds_toArray, List.set_cons_zero, List.set_cons_succ])
    refine wpAnyH_take (i := 4) (oi := ?_) (v := ?_) ?_ (by kernel_rfl) (by decide +kernel) (by decide +kernel) (fun _ _ _ h => h) ?_ (by assumption) ?_
    rotate_left 2
    focus (simp only [List.getElem?_toArray, List.getElem?_cons_succ, List.getElem?_cons_zero] <;> rfl)
    · refine Or.inl ⟨by rfl, ?_⟩
      intro w hSw
      (try dsimp only at hSw)
      go_simp <;> with_reducible rfl
    (try simp only [Act.put, List.setIfInBounds_toArray, List.set_cons_zero, List.set_cons_succ])
    refine wpAnyH_take (i := 5) (oi := ?_) (v := .agg (askC x a)) ?_ (by kernel_rfl) (by decide +kernel) (by decide +kernel) (fun _ _ _ h => h) ?_ (by assumption) ?_
    rotate_left 1
    focus (simp only [List.getElem?_toArray, List.getElem?_cons_succ, List.getElem?_cons_zero] <;> rfl)
    · refine yieldsX (T := 24) ?_ (.tmp 3) ?_ ⟨ga, 0, none⟩ ?_ (askC x a) ?_
      focus rfl
      focus exact rfl
      focus exact rfl
      exact fun w hSw => run_loadX tyAsk rfl (Bx.go Ga.out hSw)
    (try simp only [Act.put, List.setIfInBounds_toArray, List.set_cons_zero, List.set_cons_succ])
    refine wpAnyH_take (i := 6) (oi := ?_) (v := ?_) ?_ (by kernel_rfl) (by decide +kernel) (by decide +kernel) (fun _ _ _ h => h) ?_ (by assumption) ?_
    rotate_left 2
    focus (simp only [List.getElem?_toArray, List.getElem?_cons_succ, List.getElem?_cons_zero] <;> rfl)
    · refine Or.inl ⟨by rfl, ?_⟩
      intro w hSw
      (try dsimp only at hSw)
      go_simp <;> with_reducible rfl
    (try simp only [Act.put, List.setIfInBounds_toArray, List.set_cons_zero, List.set_cons_succ])
    refine wpAnyH_take (i := 7) (oi := ?_) (v := ?_) ?_ (by kernel_rfl) (by decide +kernel) (by decide +kernel) (fun _ _ _ h => h) ?_ (by assumption) ?_
    rotate_left 2
    focus (simp only [List.getElem?_toArray, List.getElem?_cons_succ, List.getElem?_cons_zero] <;> rfl)
    · refine Or.inl ⟨by rfl, ?_⟩
      intro w hSw
      (try dsimp only at hSw)
      go_simp <;> with_reducible rfl
    (try simp only [Act.put, List.setIfInBounds_toArray, List.set_cons_zero, List.set_cons_succ])
    refine wpAnyH_take (i := 9) (oi := ?_) (v := .agg (askC x a)) ?_ (by kernel_rfl) (by decide +kernel) (by decide +kernel) (fun _ _ _ h => h) ?_ (by assumption) ?_
    rotate_left 1
    focus (simp only [List.getElem?_toArray, List.getElem?_cons_succ, List.getElem?_cons_zero] <;> rfl)
    · refine yieldsX (T := 24) ?_ (.tmp 3) ?_ ⟨ga, 0, none⟩ ?_ (askC x a) ?_
      focus rfl
      focus exact rfl
      focus exact rfl
      exact fun w hSw => run_loadX tyAsk rfl (Bx.go Ga.out hSw)
    (try simp only [Act.put, List.setIfInBounds_toArray, List.set_cons_zero, List.set_cons_succ])
    refine wpAnyH_take (i := 10) (oi := ?_) (v := ?_) ?_ (by kernel_rfl) (by decide +kernel) (by decide +kernel) (fun _ _ _ h => h) ?_ (by assumption) ?_
    rotate_left 2
    focus (simp only [List.getElem?_toArray, List.getElem?_cons_succ, List.getElem?_cons_zero] <;> rfl)
    · refine Or.inl ⟨by rfl, ?_⟩
      intro w hSw
      (try dsimp only at hSw)
      go_simp <;> with_reducible rfl
    (try simp only [Act.put, List.setIfInBounds_toArray, List.set_cons_zero, List.set_cons_succ])
    refine wpAnyH_take (i := 11) (oi := ?_) (v := ?_) ?_ (by kernel_rfl) (by decide +kernel) (by decide +kernel) (fun _ _ _ h => h) ?_ (by assumption) ?_
    rotate_left 2
    focus (simp only [List.getElem?_toArray, List.getElem?_cons_succ, List.getElem?_cons_zero] <;> rfl)
    · refine Or.inl ⟨by rfl, ?_⟩
      intro w hSw
      (try dsimp only at hSw)
      go_simp <;> with_reducible rfl
    (try simp only [Act.put, List.setIfInBounds_toArray, List.set_cons_zero, List.set_cons_succ])
    refine wpAnyH_ready (rs := [8]) (by decide +kernel) (by simp) ?_
    refine AllReadyH.cons rfl (fun K hK => ?_) AllReadyH.nil
    go_simp
    go_at_call 19
    refine (EM.out _ (HT.out.below (belG HB.out BB0.out HB.out.size)) hR (RA.out.go BB0.out)).mono ?_
    rintro e wz1 ⟨rfl, hb⟩
    have BB1 := Lib.hid (belG BB0.out hb BB0.out.size)
    clear hb
    refine hK.out _ _ (KEEP.out _ BB1.out) (fun hHeld => ?_)
    clear hK K
    (try simp only [Act.put, List.setIfInBounds_toArray, List.set_cons_zero, List.set_cons_succ])
    refine wpAnyH_ready (rs := [12]) (by decide +kernel) (by simp) ?_
    refine AllReadyH.cons rfl (fun K hK => ?_) AllReadyH.nil
    go_simp
    go_at_call 20
    refine (DM.out _).mono ?_
    rintro e wz2 ⟨rfl, hb⟩
    have BB2 := Lib.hid (belG BB1.out hb BB1.out.size)
    clear hb
    refine hK.out _ _ (KEEP.out _ BB2.out) (fun hHeld => ?_)
    clear hK K
    (try simp only [Act.put, List.setIfInBounds_toArray, List.set_cons_zero, List.set_cons_succ])
    refine wpAnyH_take (i := 13) (oi := ?_) (v := ?_) ?_ (by kernel_rfl) (by decide +kernel) (by decide +kernel) (fun _ _ _ h => h) ?_ (by assumption) ?_
    rotate_left 2
    focus (simp only [List.getElem?_toArray, List.getElem?_cons_succ, List.getElem?_cons_zero] <;> rfl)
    · refine Or.inl ⟨by rfl, ?_⟩
      intro w hSw
      (try dsimp only at hSw)
      go_simp <;> with_reducible rfl
    (try simp only [Act.put, List.setIfInBounds_toArray, List.set_cons_zero, List.set_cons_succ])
    refine wpAnyH_take (i := 14) (oi := ?_) (v := ?_) ?_ (by kernel_rfl) (by decide +kernel) (by decide +kernel) (fun _ _ _ h => h) ?_ (by assumption) ?_
    rotate_left 2
    focus (simp only [List.getElem?_toArray, List.getElem?_cons_succ, List.getElem?_cons_zero] <;> rfl)
    · refine Or.inl ⟨by rfl, ?_⟩
      intro w hSw
      (try dsimp only at hSw)
      go_simp <;> with_reducible rfl
    (try simp only [Act.put, List.setIfInBounds_toArray, List.set_cons_zero, List.set_cons_succ])
    refine wpAnyH_take (i := 15) (oi := ?_) (v := ?_) ?_ (by kernel_rfl) (by decide +kernel) (by decide +kernel) (fun _ _ _ h => h) ?_ (by assumption) ?_
    rotate_left 2
    focus (simp only [List.getElem?_toArray, List.getElem?_cons_succ, List.getElem?_cons_zero] <;> rfl)
    · refine Or.inl ⟨by rfl, ?_⟩
      intro w hSw
      (try dsimp only at hSw)
      go_simp <;> with_reducible rfl
    (try simp only [Act.put, List.setIfInBounds_toArray, List.set_cons_zero, List.set_cons_succ])
    refine wpAnyH_take (i := 16) (oi := ?_) (v := ?_) ?_ (by kernel_rfl) (by decide +kernel) (by decide +kernel) (fun _ _ _ h => h) ?_ (by assumption) ?_
    rotate_left 2
    focus (simp only [List.getElem?_toArray, List.getElem?_cons_succ, List.getElem?_cons_zero] <;> rfl)
    · refine Or.inl ⟨by rfl, ?_⟩
      intro w hSw
      (try dsimp only at hSw)
      go_simp <;> with_reducible rfl
    (try simp only [Act.put, List.setIfInBounds_toArray, List.set_cons_zero, List.set_cons_succ])
    refine wpAnyH_done (by decide +kernel) ?_ _
    refine NoPanic.normal ?_
    clear KEEP
    obtain ⟨w8, hw⟩ : ∃ x, x = wz2 := ⟨_, rfl⟩
    have hb : Below w7.heap.size w7 w8 := by rw [hw]; exact BB2.out
    rw [← hw]
    have nHB := Lib.hid (belG HB.out hb HB.out.size)
    have nRA := Lib.hid (RA.out.go hb)
    have nRB := Lib.hid (RB.out.go hb)
    have nRK := Lib.hid (RK.out.go hb)
    have nRGx := Lib.hid (RGx.out.go hb)
    have nRGy := Lib.hid (RGy.out.go hb)
    have nGa := Lib.hid (Bx.go Ga.out hb)
    have nGb := Lib.hid (Bx.go Gb.out hb)
    have nGx := Lib.hid (Bx.go Gx.out hb)
    have nGy := Lib.hid (Bx.go Gy.out hb)
    clear hb hw
    clear HB RA RB RK RGx RGy Ga Gb Gx Gy
    have HB := nHB
    have RA := nRA
    have RB := nRB
    have RK := nRK
    have RGx := nRGx
    have RGy := nRGy
    have Ga := nGa
    have Gb := nGb
    have Gx := nGx
    have Gy := nGy
    clear nHB nRA nRB nRK nRGx nRGy nGa nGb nGx nGy
    go_wp2_with fail
    go_ret
    exact ⟨by first | rfl | (simp; done), HB.out⟩
  · rw [decide_eq_false hR] at ER ⊢
    go_upto_region 12 with fail
    have BB0 := Lib.hid ((Below.refl w6.heap.size w6).drew)
    have KEEP := Lib.hid (fun w' (hW : Below w6.heap.size w6 w') => (show Below w6.heap.size w6 w' from hW))
    refine wp_region_noPanic ?_
    refine wp_region_held_drew (S := fun w' => Below w6.heap.size w6 w') (by kernel_rfl) (KEEP.out _ BB0.out) (fun hHeld => ?_)
    obtain ⟨wz0, hwz⟩ : ∃ x, x = w6.drew := ⟨_, rfl⟩
    rw [← hwz] at BB0 hHeld ⊢
    clear hwz
    refine wpAnyH_take (i := 0) (oi := ?_) (v := .agg (askC u q)) ?_ (by kernel_rfl) (by decide +kernel) (by decide +kernel) (fun _ _ _ h => h) ?_ (by assumption) ?_
    rotate_left 1
    focus (simp only [List.getElem?_toArray, List.getElem?_cons_zero] <;> rfl)
    · refine yieldsX (T := 24) ?_ (.tmp 9) ?_ ⟨gx, 0, none⟩ ?_ (askC u q) ?_
      focus rfl
      focus exact rfl
      focus exact rfl
      exact fun w hSw => run_loadX tyAsk rfl (Bx.go Gx.out hSw)
    (try simp only [Act.put, List.setIfInBounds_toArray, List.set_cons_zero, List.set_cons_succ])
    refine wpAnyH_take (i := 1) (oi := ?_) (v := .agg (askC v q)) ?_ (by kernel_rfl) (by decide +kernel) (by decide +kernel) (fun _ _ _ h => h) ?_ (by assumption) ?_
    rotate_left 1
    focus (simp only [List.getElem?_toArray, List.getElem?_cons_succ, List.getElem?_cons_zero] <;> rfl)
    · refine yieldsX (T := 24) ?_ (.tmp 11) ?_ ⟨gy, 0, none⟩ ?_ (askC v q) ?_
      focus rfl
      focus exact rfl
      focus exact rfl
      exact fun w hSw => run_loadX tyAsk rfl (Bx.go Gy.out hSw)
    (try simp only [Act.put, List.setIfInBounds_toArray, List.set_cons_zero, List.set_cons_succ])
    refine wpAnyH_ready (rs := [2]) (by decide +kernel) (by simp) ?_
    refine AllReadyH.cons rfl (fun K hK => ?_) AllReadyH.nil
    go_simp
    go_at_call 12
    refine (SQ.out u v _ (RGx.out.go BB0.out) (RGy.out.go BB0.out)).mono ?_
    rintro e wz1 ⟨rfl, hb⟩
    have BB1 := Lib.hid (belG BB0.out hb BB0.out.size)
    clear hb
    refine hK.out _ _ (KEEP.out _ BB1.out) (fun hHeld => ?_)
    clear hK K
    (try simp only [Act.put, List.setIfInBounds_toArray, List.set_cons_zero, List.set_cons_succ])
    refine wpAnyH_take (i := 3) (oi := ?_) (v := ?_) ?_ (by kernel_rfl) (by decide +kernel) (by decide +kernel) (fun _ _ _ h => h) ?_ (by assumption) ?_
    rotate_left 2
    focus (simp only [List.getElem?_toArray, List.getElem?_cons_succ, List.getElem?_cons_zero] <;> rfl)
    · refine Or.inl ⟨by rfl, ?_⟩
      intro w hSw
      (try dsimp only at hSw)
      go_simp <;> with_reducible rfl
    (try simp only [Act.put, List.setIfInBounds_toArray, List.set_cons_zero, List.set_cons_succ])
    refine wpAnyH_take (i := 4) (oi := ?_) (v := ?_) ?_ (by kernel_rfl) (by decide +kernel) (by decide +kernel) (fun _ _ _ h => h) ?_ (by assumption) ?_
    rotate_left 2
    focus (simp only [List.getElem?_toArray, List.getElem?_cons_succ, List.getElem?_cons_zero] <;> rfl)
    · refine Or.inl ⟨by rfl, ?_⟩
      intro w hSw
      (try dsimp only at hSw)
      go_simp <;> with_reducible rfl
    (try simp only [Act.put, List.setIfInBounds_toArray, List.set_cons_zero, List.set_cons_succ])
    refine wpAnyH_take (i := 5) (oi := ?_) (v := ?_) ?_ (by kernel_rfl) (by decide +kernel) (by decide +kernel) (fun _ _ _ h => h) ?_ (by assumption) ?_
    rotate_left 2
    focus (simp only [List.getElem?_toArray, List.getElem?_cons_succ, List.getElem?_cons_zero] <;> rfl)
    · refine Or.inl ⟨by rfl, ?_⟩
      intro w hSw
      (try dsimp only at hSw)
      go_simp <;> with_reducible rfl
    (try simp only [Act.put, List.setIfInBounds_toArray, List.set_cons_zero, List.set_cons_succ])
    refine wpAnyH_take (i := 6) (oi := ?_) (v := ?_) ?_ (by kernel_rfl) (by decide +kernel) (by decide +kernel) (fun _ _ _ h => h) ?_ (by assumption) ?_
    rotate_left 2
    focus (simp only [List.getElem?_toArray, List.getElem?_cons_succ, List.getElem?_cons_zero] <;> rfl)
    · refine Or.inl ⟨by rfl, ?_⟩
      intro w hSw
      (try dsimp only at hSw)
      go_simp <;> with_reducible rfl
    (try simp only [Act.put, List.setIfInBounds_toArray, List.set_cons_zero, List.set_cons_succ])
    refine wpAnyH_take (i := 7) (oi := ?_) (v := ?_) ?_ (by kernel_rfl) (by decide +kernel) (by decide +kernel) (fun _ _ _ h => h) ?_ (by assumption) ?_
    rotate_left 2
    focus (simp only [List.getElem?_toArray, List.getElem?_cons_succ, List.getElem?_cons_zero] <;> rfl)
    · refine Or.inl ⟨by rfl, ?_⟩
      intro w hSw
      (try dsimp only at hSw)
      go_simp <;> with_reducible rfl
    (try simp only [Act.put, List.setIfInBounds_toArray, List.set_cons_zero, List.set_cons_succ])
    refine wpAnyH_take (i := 8) (oi := ?_) (v := ?_) ?_ (by kernel_rfl) (by decide +kernel) (by decide +kernel) (fun _ _ _ h => h) ?_ (by assumption) ?_
    rotate_left 2
    focus (simp only [List.getElem?_toArray, List.getElem?_cons_succ, List.getElem?_cons_zero] <;> rfl)
    · refine Or.inl ⟨by rfl, ?_⟩
      intro w hSw
      (try dsimp only at hSw)
      go_simp <;> with_reducible rfl
    (try simp only [Act.put, List.setIfInBounds_toArray, List.set_cons_zero, List.set_cons_succ])
    refine wpAnyH_take (i := 9) (oi := ?_) (v := ?_) ?_ (by kernel_rfl) (by decide +kernel) (by decide +kernel) (fun _ _ _ h => h) ?_ (by assumption) ?_
    rotate_left 2
    focus (simp only [List.getElem?_toArray, List.getElem?_cons_succ, List.getElem?_cons_zero] <;> rfl)
    · refine Or.inl ⟨by rfl, ?_⟩
      intro w hSw
      (try dsimp only at hSw)
      go_simp <;> with_reducible rfl
    (try simp only [Act.put, List.setIfInBounds_toArray, List.set_cons_zero, List.set_cons_succ])
    refine wpAnyH_take (i := 10) (oi := ?_) (v := ?_) ?_ (by kernel_rfl) (by decide +kernel) (by decide +kernel) (fun _ _ _ h => h) ?_ (by assumption) ?_
    rotate_left 2
    focus (simp only [List.getElem?_toArray, List.getElem?_cons_succ, List.getElem?_cons_zero] <;> rfl)
    · refine Or.inl ⟨by rfl, ?_⟩
      intro w hSw
      (try dsimp only at hSw)
      go_simp <;> with_reducible rfl
    (try simp only [Act.put, List.setIfInBounds_toArray, List.set_cons_zero, List.set_cons_succ])
    refine wpAnyH_take (i := 12) (oi := ?_) (v := ?_) ?_ (by kernel_rfl) (by decide +kernel) (by decide +kernel) (fun _ _ _ h => h) ?_ (by assumption) ?_
    rotate_left 2
    focus (simp only [List.getElem?_toArray, List.getElem?_cons_succ, List.getElem?_cons_zero] <;> rfl)
    · refine Or.inl ⟨by rfl, ?_⟩
      intro w hSw
      (try dsimp only at hSw)
      go_simp <;> with_reducible rfl
    (try simp only [Act.put, List.setIfInBounds_toArray, List.set_cons_zero, List.set_cons_succ])
    refine wpAnyH_ready (rs := [11]) (by decide +kernel) (by simp) ?_
    refine AllReadyH.cons rfl (fun K hK => ?_) AllReadyH.nil
    go_simp
    go_at_call 13
    refine (EN.out _ (HT.out.below (belG HB.out BB1.out HB.out.size))).mono ?_
    rintro e wz2 ⟨rfl, hb⟩
    have BB2 := Lib.hid (belG BB1.out hb BB1.out.size)
    clear hb
    refine hK.out _ _ (KEEP.out _ BB2.out) (fun hHeld => ?_)
    clear hK K
    (try simp only [Act.put, List.setIfInBounds_toArray, List.set_cons_zero, List.set_cons_succ])
    refine wpAnyH_ready (rs := [13]) (by decide +kernel) (by simp) ?_
    refine AllReadyH.cons rfl (fun K hK => ?_) AllReadyH.nil
    go_simp
    go_at_call 14
    refine (DN.out _).mono ?_
    rintro e wz3 ⟨rfl, hw⟩
    obtain rfl := hw
    refine hK.out _ _ (KEEP.out _ BB2.out) (fun hHeld => ?_)
    clear hK K
    (try simp only [Act.put, List.setIfInBounds_toArray, List.set_cons_zero, List.set_cons_succ])
    refine wpAnyH_take (i := 14) (oi := ?_) (v := ?_) ?_ (by kernel_rfl) (by decide +kernel) (by decide +kernel) (fun _ _ _ h => h) ?_ (by assumption) ?_
    rotate_left 2
    focus (simp only [List.getElem?_toArray, List.getElem?_cons_succ, List.getElem?_cons_zero] <;> rfl)
    · refine Or.inl ⟨by rfl, ?_⟩
      intro w hSw
      (try dsimp only at hSw)
      go_simp <;> with_reducible rfl
    (try simp only [Act.put, List.setIfInBounds_toArray, List.set_cons_zero, List.set_cons_succ])
    refine wpAnyH_take (i := 15) (oi := ?_) (v := ?_) ?_ (by kernel_rfl) (by decide +kernel) (by decide +kernel) (fun _ _ _ h => h) ?_ (by assumption) ?_
    rotate_left 2
    focus (simp only [List.getElem?_toArray, List.getElem?_cons_succ, List.getElem?_cons_zero] <;> rfl)
    · refine Or.inl ⟨by rfl, ?_⟩
      intro w hSw
      (try dsimp only at hSw)
      go_simp <;> with_reducible rfl
    (try simp only [Act.put, List.setIfInBounds_toArray, List.set_cons_zero, List.set_cons_succ])
    refine wpAnyH_take (i := 16) (oi := ?_) (v := ?_) ?_ (by kernel_rfl) (by decide +kernel) (by decide +kernel) (fun _ _ _ h => h) ?_ (by assumption) ?_
    rotate_left 2
    focus (simp only [List.getElem?_toArray, List.getElem?_cons_succ, List.getElem?_cons_zero] <;> rfl)
    · refine Or.inl ⟨by rfl, ?_⟩
      intro w hSw
      (try dsimp only at hSw)
      go_simp <;> with_reducible rfl
    (try simp only [Act.put, List.setIfInBounds_toArray, List.set_cons_zero, List.set_cons_succ])
    refine wpAnyH_take (i := 17) (oi := ?_) (v := ?_) ?_ (by kernel_rfl) (by decide +kernel) (by decide +kernel) (fun _ _ _ h => h) ?_ (by assumption) ?_
    rotate_left 2
    focus (simp only [List.getElem?_toArray, List.getElem?_cons_succ, List.getElem?_cons_zero] <;> rfl)
    · refine Or.inl ⟨by rfl, ?_⟩
      intro w hSw
      (try dsimp only at hSw)
      go_simp <;> with_reducible rfl
    (try simp only [Act.put, List.setIfInBounds_toArray, List.set_cons_zero, List.set_cons_succ])
    refine wpAnyH_take (i := 19) (oi := ?_) (v := ?_) ?_ (by kernel_rfl) (by decide +kernel) (by decide +kernel) (fun _ _ _ h => h) ?_ (by assumption) ?_
    rotate_left 2
    focus (simp only [List.getElem?_toArray, List.getElem?_cons_succ, List.getElem?_cons_zero] <;> rfl)
    · refine Or.inl ⟨by rfl, ?_⟩
      intro w hSw
      (try dsimp only at hSw)
      go_simp <;> with_reducible rfl
    (try simp only [Act.put, List.setIfInBounds_toArray, List.set_cons_zero, List.set_cons_succ])
    refine wpAnyH_ready (rs := [18]) (by decide +kernel) (by simp) ?_
    refine AllReadyH.cons rfl (fun K hK => ?_) AllReadyH.nil
    go_simp
    go_at_call 15
    refine (EK.out _ (HT.out.below (belG HB.out BB2.out HB.out.size))).mono ?_
    rintro e wz4 ⟨rfl, hb⟩
    have BB4 := Lib.hid (belG BB2.out hb BB2.out.size)
    clear hb
    refine hK.out _ _ (KEEP.out _ BB4.out) (fun hHeld => ?_)
    clear hK K
    (try simp only [Act.put, List.setIfInBounds_toArray, List.set_cons_zero, List.set_cons_succ])
    refine wpAnyH_ready (rs := [20]) (by decide +kernel) (by simp) ?_
    refine AllReadyH.cons rfl (fun K hK => ?_) AllReadyH.nil
    go_simp
    go_at_call 16
    refine (DK.out _).mono ?_
    rintro e wz5 ⟨rfl, hw⟩
    obtain rfl := hw
    refine hK.out _ _ (KEEP.out _ BB4.out) (fun hHeld => ?_)
    clear hK K
    (try simp only [Act.put, List.setIfInBounds_toArray, List.set_cons_zero, List.set_cons_succ])
    refine wpAnyH_take (i := 21) (oi := ?_) (v := ?_) ?_ (by kernel_rfl) (by decide +kernel) (by decide +kernel) (fun _ _ _ h => h) ?_ (by assumption) ?_
    rotate_left 2
    focus (simp only [List.getElem?_toArray, List.getElem?_cons_succ, List.getElem?_cons_zero] <;> rfl)
    · refine Or.inl ⟨by rfl, ?_⟩
      intro w hSw
      (try dsimp only at hSw)
      go_simp <;> with_reducible rfl
    (try simp only [Act.put, List.setIfInBounds_toArray, List.set_cons_zero, List.set_cons_succ])
    refine wpAnyH_take (i := 22) (oi := ?_) (v := ?_) ?_ (by kernel_rfl) (by decide +kernel) (by decide +kernel) (fun _ _ _ h => h) ?_ (by assumption) ?_
    rotate_left 2
    focus (simp only [List.getElem?_toArray, List.getElem?_cons_succ, List.getElem?_cons_zero] <;> rfl)
    · refine Or.inl ⟨by rfl, ?_⟩
      intro w hSw
      (try dsimp only at hSw)
      go_simp <;> with_reducible rfl
    (try simp only [Act.put, List.setIfInBounds_toArray, List.set_cons_zero, List.set_cons_succ])
    refine wpAnyH_take (i := 23) (oi := ?_) (v := ?_) ?_ (by kernel_rfl) (by decide +kernel) (by decide +kernel) (fun _ _ _ h => h) ?_ (by assumption) ?_
    rotate_left 2
    focus (simp only [List.getElem?_toArray, List.getElem?_cons_succ, List.getElem?_cons_zero] <;> rfl)
    · refine Or.inl ⟨by rfl, ?_⟩
      intro w hSw
      (try dsimp only at hSw)
      go_simp <;> with_reducible rfl
    (try simp only [Act.put, List.setIfInBounds_toArray, List.set_cons_zero, List.set_cons_succ])
    refine wpAnyH_take (i := 24) (oi := ?_) (v := .agg (askC x a)) ?_ (by kernel_rfl) (by decide +kernel) (by decide +kernel) (fun _ _ _ h => h) ?_ (by assumption) ?_
    rotate_left 1
    focus (simp only [List.getElem?_toArray, List.getElem?_cons_succ, List.getElem?_cons_zero] <;> rfl)
    · refine yieldsX (T := 24) ?_ (.tmp 3) ?_ ⟨ga, 0, none⟩ ?_ (askC x a) ?_
      focus rfl
      focus exact rfl
      focus exact rfl
      exact fun w hSw => run_loadX tyAsk rfl (Bx.go Ga.out hSw)
    (try simp only [Act.put, List.setIfInBounds_toArray, List.set_cons_zero, List.set_cons_succ])
    refine wpAnyH_take (i := 26) (oi := ?_) (v := ?_) ?_ (by kernel_rfl) (by decide +kernel) (by decide +kernel) (fun _ _ _ h => h) ?_ (by assumption) ?_
    rotate_left 2
    focus (simp only [List.getElem?_toArray, List.getElem?_cons_succ, List.getElem?_cons_zero] <;> rfl)
    · refine Or.inl ⟨by rfl, ?_⟩
      intro w hSw
      (try dsimp only at hSw)
      go_simp <;> with_reducible rfl
    (try simp only [Act.put, List.setIfInBounds_toArray, List.set_cons_zero, List.set_cons_succ])
    refine wpAnyH_ready (rs := [25]) (by decide +kernel) (by simp) ?_
    refine AllReadyH.cons rfl (fun K hK => ?_) AllReadyH.nil
    go_simp
    go_at_call 17
    refine (ER.out _ (HT.out.below (belG HB.out BB4.out HB.out.size)) (RA.out.go BB4.out)).mono ?_
    rintro e wz6 ⟨rfl, hb⟩
    have BB6 := Lib.hid (belG BB4.out hb BB4.out.size)
    clear hb
    refine hK.out _ _ (KEEP.out _ BB6.out) (fun hHeld => ?_)
    clear hK K
    (try simp only [Act.put, List.setIfInBounds_toArray, List.set_cons_zero, List.set_cons_succ])
    refine wpAnyH_take (i := 27) (oi := ?_) (v := ?_) ?_ (by kernel_rfl) (by decide +kernel) (by decide +kernel) (fun _ _ _ h => h) ?_ (by assumption) ?_
    rotate_left 2
    focus (simp only [List.getElem?_toArray, List.getElem?_cons_succ, List.getElem?_cons_zero] <;> rfl)
    · refine Or.inl ⟨by rfl, ?_⟩
      intro w hSw
      (try dsimp only at hSw)
      go_simp <;> with_reducible rfl
    (try simp only [Act.put, List.setIfInBounds_toArray, List.set_cons_zero, List.set_cons_succ])
    refine wpAnyH_take (i := 28) (oi := ?_) (v := ?_) ?_ (by kernel_rfl) (by decide +kernel) (by decide +kernel) (fun _ _ _ h => h) ?_ (by assumption) ?_
    rotate_left 2
    focus (simp only [List.getElem?_toArray, List.getElem?_cons_succ, List.getElem?_cons_zero] <;> rfl)
    · refine Or.inl ⟨by rfl, ?_⟩
      intro w hSw
      (try dsimp only at hSw)
      go_simp <;> with_reducible rfl
    (try simp only [Act.put, List.setIfInBounds_toArray, List.set_cons_zero, List.set_cons_succ])
    refine wpAnyH_take (i := 29) (oi := ?_) (v := ?_) ?_ (by kernel_rfl) (by decide +kernel) (by decide +kernel) (fun _ _ _ h => h) ?_ (by assumption) ?_
    rotate_left 2
    focus (simp only [List.getElem?_toArray, List.getElem?_cons_succ, List.getElem?_cons_zero] <;> rfl)
    · refine Or.inl ⟨by rfl, ?_⟩
      intro w hSw
      (try dsimp only at hSw)
      go_simp <;> with_reducible rfl
    (try simp only [Act.put, List.setIfInBounds_toArray, List.set_cons_zero, List.set_cons_succ])
    refine wpAnyH_take (i := 30) (oi := ?_) (v := .agg (askC x a)) ?_ (by kernel_rfl) (by decide +kernel) (by decide +kernel) (fun _ _ _ h => h) ?_ (by assumption) ?_
    rotate_left 1
    focus (simp only [List.getElem?_toArray, List.getElem?_cons_succ, List.getElem?_cons_zero] <;> rfl)
    · refine yieldsX (T := 24) ?_ (.tmp 3) ?_ ⟨ga, 0, none⟩ ?_ (askC x a) ?_
      focus rfl
      focus exact rfl
      focus exact rfl
      exact fun w hSw => run_loadX tyAsk rfl (Bx.go Ga.out hSw)
    (try simp only [Act.put, List.setIfInBounds_toArray, List.set_cons_zero, List.set_cons_succ])
    refine wpAnyH_take (i := 31) (oi := ?_) (v := .agg (askC y b)) ?_ (by kernel_rfl) (by decide +kernel) (by decide +kernel) (fun _ _ _ h => h) ?_ (by assumption) ?_
    rotate_left 1
    focus (simp only [List.getElem?_toArray, List.getElem?_cons_succ, List.getElem?_cons_zero] <;> rfl)
    · refine yieldsX (T := 24) ?_ (.tmp 4) ?_ ⟨gb, 0, none⟩ ?_ (askC y b) ?_
      focus rfl
      focus exact rfl
      focus exact rfl
      exact fun w hSw => run_loadX tyAsk rfl (Bx.go Gb.out hSw)
    (try simp only [Act.put, List.setIfInBounds_toArray, List.set_cons_zero, List.set_cons_succ])
    refine wpAnyH_take (i := 33) (oi := ?_) (v := .agg (askC x a)) ?_ (by kernel_rfl) (by decide +kernel) (by decide +kernel) (fun _ _ _ h => h) ?_ (by assumption) ?_
    rotate_left 1
    focus (simp only [List.getElem?_toArray, List.getElem?_cons_succ, List.getElem?_cons_zero] <;> rfl)
    · refine yieldsX (T := 24) ?_ (.tmp 3) ?_ ⟨ga, 0, none⟩ ?_ (askC x a) ?_
      focus rfl
      focus exact rfl
      focus exact rfl
      exact fun w hSw => run_loadX tyAsk rfl (Bx.go Ga.out hSw)
    (try simp only [Act.put, List.setIfInBounds_toArray, List.set_cons_zero, List.set_cons_succ])
    refine wpAnyH_take (i := 34) (oi := ?_) (v := .agg (askC y b)) ?_ (by kernel_rfl) (by decide +kernel) (by decide +kernel) (fun _ _ _ h => h) ?_ (by assumption) ?_
    rotate_left 1
    focus (simp only [List.getElem?_toArray, List.getElem?_cons_succ, List.getElem?_cons_zero] <;> rfl)
    · refine yieldsX (T := 24) ?_ (.tmp 4) ?_ ⟨gb, 0, none⟩ ?_ (askC y b) ?_
      focus rfl
      focus exact rfl
      focus exact rfl
      exact fun w hSw => run_loadX tyAsk rfl (Bx.go Gb.out hSw)
    (try simp only [Act.put, List.setIfInBounds_toArray, List.set_cons_zero, List.set_cons_succ])
    refine wpAnyH_ready (rs := [32]) (by decide +kernel) (by simp) ?_
    refine AllReadyH.cons rfl (fun K hK => ?_) AllReadyH.nil
    go_simp
    go_at_call 18
    refine (ES.out _ (HT.out.below (belG HB.out BB6.out HB.out.size)) (RA.out.go BB6.out) (RB.out.go BB6.out)).mono ?_
    rintro e wz7 ⟨rfl, hb⟩
    have BB7 := Lib.hid (belG BB6.out hb BB6.out.size)
    clear hb
    refine hK.out _ _ (KEEP.out _ BB7.out) (fun hHeld => ?_)
    clear hK K
    (try simp only [Act.put, List.setIfInBounds_toArray, List.set_cons_zero, List.set_cons_succ])
    refine wpAnyH_ready (rs := [35]) (by decide +kernel) (by simp) ?_
    refine AllReadyH.cons rfl (fun K hK => ?_) AllReadyH.nil
    go_simp
    go_at_call 12
    refine (DS.out _ (RA.out.go BB7.out) (RB.out.go BB7.out)).mono ?_
    rintro e wz8 ⟨rfl, hb⟩
    have BB8 := Lib.hid (belG BB7.out hb BB7.out.size)
    clear hb
    refine hK.out _ _ (KEEP.out _ BB8.out) (fun hHeld => ?_)
    clear hK K
    (try simp only [Act.put, List.setIfInBounds_toArray, List.set_cons_zero, List.set_cons_succ])
    refine wpAnyH_take (i := 36) (oi := ?_) (v := ?_) ?_ (by kernel_rfl) (by decide +kernel) (by decide +kernel) (fun _ _ _ h => h) ?_ (by assumption) ?_
    rotate_left 2
    focus (simp only [List.getElem?_toArray, List.getElem?_cons_succ, List.getElem?_cons_zero] <;> rfl)
    · refine Or.inl ⟨by rfl, ?_⟩
      intro w hSw
      (try dsimp only at hSw)
      go_simp <;> with_reducible rfl
    (try simp only [Act.put, List.setIfInBounds_toArray, List.set_cons_zero, List.set_cons_succ])
    refine wpAnyH_take (i := 37) (oi := ?_) (v := ?_) ?_ (by kernel_rfl) (by decide +kernel) (by decide +kernel) (fun _ _ _ h => h) ?_ (by assumption) ?_
    rotate_left 2
    focus (simp only [List.getElem?_toArray, List.getElem?_cons_succ, List.getElem?_cons_zero] <;> rfl)
    · refine Or.inl ⟨by rfl, ?_⟩
      intro w hSw
      (try dsimp only at hSw)
      go_simp <;> with_reducible rfl
    (try simp only [Act.put, List.setIfInBounds_toArray, List.set_cons_zero, List.set_cons_succ])
    refine wpAnyH_done (by decide +kernel) ?_ _
    refine NoPanic.normal ?_
    clear KEEP
    obtain ⟨w7, hw⟩ : ∃ x, x = wz8 := ⟨_, rfl⟩
    have hb : Below w6.heap.size w6 w7 := by rw [hw]; exact BB8.out
    rw [← hw]
    have nHB := Lib.hid (belG HB.out hb HB.out.size)
    have nRA := Lib.hid (RA.out.go hb)
    have nRB := Lib.hid (RB.out.go hb)
    have nRK := Lib.hid (RK.out.go hb)
    have nRGx := Lib.hid (RGx.out.go hb)
    have nRGy := Lib.hid (RGy.out.go hb)
    have nGa := Lib.hid (Bx.go Ga.out hb)
    have nGb := Lib.hid (Bx.go Gb.out hb)
    have nGx := Lib.hid (Bx.go Gx.out hb)
    have nGy := Lib.hid (Bx.go Gy.out hb)
    clear hb hw
    clear HB RA RB RK RGx RGy Ga Gb Gx Gy
    have HB := nHB
    have RA := nRA
    have RB := nRB
    have RK := nRK
    have RGx := nRGx
    have RGy := nRGy
    have Ga := nGa
    have Gb := nGb
    have Gx := nGx
    have Gy := nGy
    clear nHB nRA nRB nRK nRGx nRGy nGa nGb nGx nGy
    go_upto_region 14 with fail
    have BB0 := Lib.hid ((Below.refl w7.heap.size w7).drew)
    have KEEP := Lib.hid (fun w' (hW : Below w7.heap.size w7 w') => (show Below w7.heap.size w7 w' from hW))
    refine wp_region_noPanic ?_
    refine wp_region_held_drew (S := fun w' => Below w7.heap.size w7 w') (by kernel_rfl) (KEEP.out _ BB0.out) (fun hHeld => ?_)
    obtain ⟨wz0, hwz⟩ : ∃ x, x = w7.drew := ⟨_, rfl⟩
    rw [← hwz] at BB0 hHeld ⊢
    clear hwz
    refine wpAnyH_take (i := 0) (oi := ?_) (v := ?_) ?_ (by kernel_rfl) (by decide +kernel) (by decide +kernel) (fun _ _ _ h => h) ?_ (by assumption) ?_
    rotate_left 2
    focus (simp only [List.getElem?_toArray, List.getElem?_cons_zero] <;> rfl)
    · refine Or.inl ⟨by rfl, ?_⟩
      intro w hSw
      (try dsimp only at hSw)
      go_simp <;> with_reducible rfl
    (try simp only [Act.put, List.setIfInBounds_toArray, List.set_cons_zero, List.set_cons_succ])
    refine wpAnyH_take (i := 1) (oi := ?_) (v := ?_) ?_ (by kernel_rfl) (by decide +kernel) (by decide +kernel) (fun _ _ _ h => h) ?_ (by assumption) ?_
    rotate_left 2
    focus (simp only [List.getElem?_toArray, List.getElem?_cons_succ, List.getElem?_cons_zero] <;> rfl)
    · refine Or.inl ⟨by rfl, ?_⟩
      intro w hSw
      (try dsimp only at hSw)
      go_simp <;> with_reducible rfl
    (try simp only [Act.put, List.setIfInBounds_toArray, List.set_cons_zero, List.set_cons_succ])
    refine wpAnyH_take (i := 2) (oi := ?_) (v := ?_) ?_ (by kernel_rfl) (by decide +kernel) (by decide +kernel) (fun _ _ _ h => h) ?_ (by assumption) ?_
    rotate_left 2
    focus (simp only [List.getElem?_toArray, List.getElem?_cons_succ, List.getElem?_cons_zero] <;> rfl)
    · refine Or.inl ⟨by rfl, ?_⟩
      intro w hSw
      (try dsimp only at hSw)
      go_simp <;> with_reducible rfl
    (try simp only [Act.put, List.setIfInBounds_toArray, List.set_cons_zero, List.set_cons_succ])
    refine wpAnyH_take (i := 3) (oi := ?_) (v := ?_) ?_ (by kernel_rfl) (by decide +kernel) (by decide +kernel) (fun _ _ _ h => h) ?_ (by assumption) ?_
    rotate_left 2
    focus (simp only [List.getElem?_toArray, List.getElem?_cons_succ, List.getElem?_cons_zero] <;> rfl)
    · refine Or.inl ⟨by rfl, ?_⟩
      intro w hSw
      (try dsimp only at hSw)
      go_simp <;> with_reducible rfl
    (try simp only [Act.put, List.setIfInBounds_toArray, List.set_cons_zero, List.set_cons_succ])
    refine wpAnyH_take (i := 4) (oi := ?_) (v := ?_) ?_ (by kernel_rfl) (by decide +kernel) (by decide +kernel) (fun _ _ _ h => h) ?_ (by assumption) ?_
    rotate_left 2
    focus (simp only [List.getElem?_toArray, List.getElem?_cons_succ, List.getElem?_cons_zero] <;> rfl)
    · refine Or.inl ⟨by rfl, ?_⟩
      intro w hSw
      (try dsimp only at hSw)
      go_simp <;> with_reducible rfl
    (try simp only [Act.put, List.setIfInBounds_toArray, List.set_cons_zero, List.set_cons_succ])
    refine wpAnyH_take (i := 5) (oi := ?_) (v := undef) ?_ (by kernel_rfl) (by decide +kernel) (by decide +kernel) (fun _ _ _ h => h) ?_ (by assumption) ?_
    rotate_left 1
    focus (simp only [List.getElem?_toArray, List.getElem?_cons_succ, List.getElem?_cons_zero] <;> rfl)
    · exact Or.inr ⟨by rfl, rfl⟩
    (try simp only [Act.put, List.setIfInBounds_toArray, List.set_cons_zero, List.set_cons_succ])
    refine wpAnyH_take (i := 6) (oi := ?_) (v := undef) ?_ (by kernel_rfl) (by decide +kernel) (by decide +kernel) (fun _ _ _ h => h) ?_ (by assumption) ?_
    rotate_left 1
    focus (simp only [List.getElem?_toArray, List.getElem?_cons_succ, List.getElem?_cons_zero] <;> rfl)
    · exact Or.inr ⟨by rfl, rfl⟩
    (try simp only [Act.put, List.setIfInBounds_toArray, List.set_cons_zero, List.set_cons_succ])
    refine wpAnyH_take (i := 7) (oi := ?_) (v := undef) ?_ (by kernel_rfl) (by decide +kernel) (by decide +kernel) (fun _ _ _ h => h) ?_ (by assumption) ?_
    rotate_left 1
    focus (simp only [List.getElem?_toArray, List.getElem?_cons_succ, List.getElem?_cons_zero] <;> rfl)
    · exact Or.inr ⟨by rfl, rfl⟩
    (try simp only [Act.put, List.setIfInBounds_toArray, List.set_cons_zero, List.set_cons_succ])
    refine wpAnyH_take (i := 9) (oi := ?_) (v := undef) ?_ (by kernel_rfl) (by decide +kernel) (by decide +kernel) (fun _ _ _ h => h) ?_ (by assumption) ?_
    rotate_left 1
    focus (simp only [List.getElem?_toArray, List.getElem?_cons_succ, List.getElem?_cons_zero] <;> rfl)
    · exact Or.inr ⟨by rfl, rfl⟩
    (try simp only [Act.put, List.setIfInBounds_toArray, List.set_cons_zero, List.set_cons_succ])
    refine wpAnyH_take (i := 10) (oi := ?_) (v := undef) ?_ (by kernel_rfl) (by decide +kernel) (by decide +kernel) (fun _ _ _ h => h) ?_ (by assumption) ?_
    rotate_left 1
    focus (simp only [List.getElem?_toArray, List.getElem?_cons_succ, List.getElem?_cons_zero] <;> rfl)
    · exact Or.inr ⟨by rfl, rfl⟩
    (try simp only [Act.put, List.setIfInBounds_toArray, List.set_cons_zero, List.set_cons_succ])
    refine wpAnyH_take (i := 11) (oi := ?_) (v := undef) ?_ (by kernel_rfl) (by decide +kernel) (by decide +kernel) (fun _ _ _ h => h) ?_ (by assumption) ?_
    rotate_left 1
    focus (simp only [List.getElem?_toArray, List.getElem?_cons_succ, List.getElem?_cons_zero] <;> rfl)
    · exact Or.inr ⟨by rfl, rfl⟩
    (try simp only [Act.put, List.setIfInBounds_toArray, List.set_cons_zero, List.set_cons_succ])
    refine wpAnyH_take (i := 8) (oi := ?_) (v := undef) ?_ (by kernel_rfl) (by decide +kernel) (by decide +kernel) (fun _ _ _ h => h) ?_ (by assumption) ?_
    rotate_left 1
    focus (simp only [List.getElem?_toArray, List.getElem?_cons_succ, List.getElem?_cons_zero] <;> rfl)
    · exact Or.inr ⟨by rfl, rfl⟩
    (try simp only [Act.put, List.setIfInBounds_toArray, List.set_cons_zero, List.set_cons_succ])
    refine wpAnyH_take (i := 12) (oi := ?_) (v := undef) ?_ (by kernel_rfl) (by decide +kernel) (by decide +kernel) (fun _ _ _ h => h) ?_ (by assumption) ?_
    rotate_left 1
    focus (simp only [List.getElem?_toArray, List.getElem?_cons_succ, List.getElem?_cons_zero] <;> rfl)
    · exact Or.inr ⟨by rfl, rfl⟩
    (try simp only [Act.put, List.setIfInBounds_toArray, List.set_cons_zero, List.set_cons_succ])
    refine wpAnyH_take (i := 13) (oi := ?_) (v := undef) ?_ (by kernel_rfl) (by decide +kernel) (by decide +kernel) (fun _ _ _ h => h) ?_ (by assumption) ?_
    rotate_left 1
    focus (simp only [List.getElem?_toArray, List.getElem?_cons_succ, List.getElem?_cons_zero] <;> rfl)
    · exact Or.inr ⟨by rfl, rfl⟩
    (try simp only [Act.put, List.setIfInBounds_toArray, List.set_cons_zero, List.set_cons_succ])
    refine wpAnyH_take (i := 14) (oi := ?_) (v := ?_) ?_ (by kernel_rfl) (by decide +kernel) (by decide +kernel) (fun _ _ _ h => h) ?_ (by assumption) ?_
    rotate_left 2
    focus (simp only [List.getElem?_toArray, List.getElem?_cons_succ, List.getElem?_cons_zero] <;> rfl)
    · refine Or.inl ⟨by rfl, ?_⟩
      intro w hSw
      (try dsimp only at hSw)
      go_simp <;> with_reducible rfl
    (try simp only [Act.put, List.setIfInBounds_toArray, List.set_cons_zero, List.set_cons_succ])
    refine wpAnyH_take (i := 15) (oi := ?_) (v := ?_) ?_ (by kernel_rfl) (by decide +kernel) (by decide +kernel) (fun _ _ _ h => h) ?_ (by assumption) ?_
    rotate_left 2
    focus (simp only [List.getElem?_toArray, List.getElem?_cons_succ, List.getElem?_cons_zero] <;> rfl)
    · refine Or.inl ⟨by rfl, ?_⟩
      intro w hSw
      (try dsimp only at hSw)
      go_simp <;> with_reducible rfl
    (try simp only [Act.put, List.setIfInBounds_toArray, List.set_cons_zero, List.set_cons_succ])
    refine wpAnyH_take (i := 16) (oi := ?_) (v := ?_) ?_ (by kernel_rfl) (by decide +kernel) (by decide +kernel) (fun _ _ _ h => h) ?_ (by assumption) ?_
    rotate_left 2
    focus (simp only [List.getElem?_toArray, List.getElem?_cons_succ, List.getElem?_cons_zero] <;> rfl)
    · refine Or.inl ⟨by rfl, ?_⟩
      intro w hSw
      (try dsimp only at hSw)
      go_simp <;> with_reducible rfl
    (try simp only [Act.put, List.setIfInBounds_toArray, List.set_cons_zero, List.set_cons_succ])
    refine wpAnyH_done (by decide +kernel) ?_ _
    refine NoPanic.normal ?_
    clear KEEP
    obtain ⟨w8, hw⟩ : ∃ x, x = wz0 := ⟨_, rfl⟩
    have hb : Below w7.heap.size w7 w8 := by rw [hw]; exact BB0.out
    rw [← hw]
    have nHB := Lib.hid (belG HB.out hb HB.out.size)
    have nRA := Lib.hid (RA.out.go hb)
    have nRB := Lib.hid (RB.out.go hb)
    have nRK := Lib.hid (RK.out.go hb)
    have nRGx := Lib.hid (RGx.out.go hb)
    have nRGy := Lib.hid (RGy.out.go hb)
    have nGa := Lib.hid (Bx.go Ga.out hb)
    have nGb := Lib.hid (Bx.go Gb.out hb)
    have nGx := Lib.hid (Bx.go Gx.out hb)
    have nGy := Lib.hid (Bx.go Gy.out hb)
    clear hb hw
    clear HB RA RB RK RGx RGy Ga Gb Gx Gy
    have HB := nHB
    have RA := nRA
    have RB := nRB
    have RK := nRK
    have RGx := nRGx
    have RGy := nRGy
    have Ga := nGa
    have Gb := nGb
    have Gx := nGx
    have Gy := nGy
    clear nHB nRA nRB nRK nRGx nRGy nGa nGb nGx nGy
    go_wp2_with fail
    go_ret
    exact ⟨by first | rfl | (simp; done), HB.out⟩
end Go.Proofs.Ytegekmgelnkdbaa
