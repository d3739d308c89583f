
/- SlotTells' walk. -/
import Derived.Test.YtfppcmhhbheaiaaDoorSlS
import Derived.Test.YtfppcmhhbheaiaaDoorJ24
namespace Go.Proofs.YtfppcmhhbheaiaaDoor
open Go.RowKit

set_option maxRecDepth 100000 in
theorem tySTell : Ty 26 6 := ⟨⟨_, Tryd.underlying26, rfl⟩, by kernel_rfl⟩
set_option maxRecDepth 100000 in
theorem sTell_s {n : Int} {z : Wkb} {b : List UInt8} {x : Wt} {s : Sr} {y : Wt} {o : Sr} : Part (sTellC n z b x s y o) 2 (storC x s) := fun j v h => by
  match j, h with
  | 0, h => exact h
  | 1, h => exact h
set_option maxRecDepth 100000 in
theorem sTell_o {n : Int} {z : Wkb} {b : List UInt8} {x : Wt} {s : Sr} {y : Wt} {o : Sr} : Part (sTellC n z b x s y o) 4 (storC y o) := fun j v h => by
  match j, h with
  | 0, h => exact h
  | 1, h => exact h
set_option maxRecDepth 100000 in
set_option maxHeartbeats 4000000 in
theorem slotTells_walk (n : Int) (z : Wkb) (b : List UInt8) (x : Wt) (s : Sr) (y : Wt) (o : Sr) (W : World) (hn : B64t n) (hz : KeyB W z b) (hx : StR W x s) (hy : StR W y o) (hT : Ks W) :
    Calls Tryd.prog 3 #[.agg (sTellC n z b x s y o)] W fun e W' => e = .returned (.bool true) ∧ Below W.heap.size W W' := by
  have HT := Lib.hid hT
  have RB := Lib.hid hz
  have RS := Lib.hid hx
  have RO := Lib.hid hy
  have HBN := Lib.hid hn
  clear hT hz hx hy hn
  have HCN := Lib.hid (show (sTellC n z b x s y o)[0]? = some (.int .i64 n) from rfl)
  have HCB := Lib.hid (show (sTellC n z b x s y o)[1]? = some (.slice z.1 b.length z.2) from rfl)
  have PS := Lib.hid (sTell_s (n := n) (z := z) (b := b) (x := x) (s := s) (y := y) (o := o))
  have PO := Lib.hid (sTell_o (n := n) (z := z) (b := b) (x := x) (s := s) (y := y) (o := o))
  have HFS := Lib.hid (fun w => few13_any x s w)
  have HFO := Lib.hid (fun w => few13_any y o w)
  obtain ⟨CC, hCC⟩ : ∃ CC, CC = sTellC n z b x s y o := ⟨_, rfl⟩
  rw [← hCC] at HCN HCB PS PO ⊢
  have HSZ := Lib.hid (show CC.size = 6 from by rw [hCC]; rfl)
  clear hCC
  obtain ⟨m, hm⟩ : ∃ m, m = b.length := ⟨_, rfl⟩
  rw [← hm] at HCB
  have HM := Lib.hid hm
  clear hm
  obtain ⟨V0, hV, hb, hg⟩ := bx1 W 26 CC
  have HB := Lib.hid hb
  have G0 := Lib.hid hg
  have HV := Lib.hid hV
  have nRB := Lib.hid (RB.out.go hb)
  clear RB
  have RB := nRB
  clear nRB
  have nRS := Lib.hid (RS.out.go hb)
  clear RS
  have RS := nRS
  clear nRS
  have nRO := Lib.hid (RO.out.go hb)
  clear RO
  have RO := nRO
  clear nRO
  clear hb hg hV
  go_enter Tryd.func3, Tryd.ntmps3
  go_upto_region 1 with (fail)
  rw [← HV.out]
  clear HV
  have x0 := Bx.cell G0.out HCN.out
  have x1 := Bx.cell G0.out HCB.out
  have OG0 := G0
  have LB := Lib.hid HB.out.size
  have LTG0 := Lib.hid (show W.heap.size < V0.heap.size from Bx.lt G0.out)
  obtain ⟨V1, hV1⟩ : ∃ V, V = V0.alloc (.cells (storC x s) 24) := ⟨_, rfl⟩
  have ha := (Below.refl V0.heap.size V0).alloc (Nat.le_refl _) (.cells (storC x s) 24)
  have hg := heap_alloc_new V0 (.cells (storC x s) 24)
  have nHB := Lib.hid (HB.out.alloc HB.out.size (.cells (storC x s) 24))
  rw [← hV1] at ha hg nHB
  have nRB := Lib.hid (RB.out.go ha)
  have nRS := Lib.hid (RS.out.go ha)
  have nRO := Lib.hid (RO.out.go ha)
  have nG0 := Lib.hid (Bx.go G0.out ha)
  obtain ⟨sx, hsx⟩ : ∃ g, g = V0.heap.size := ⟨_, rfl⟩
  rw [← hsx] at hg
  have HXSx := Lib.hid hsx
  have Sx := Lib.hid hg
  have HV := Lib.hid hV1
  clear ha hg hV1 hsx
  clear HB RB RS RO G0
  have HB := nHB
  have RB := nRB
  have RS := nRS
  have RO := nRO
  have G0 := nG0
  clear nHB nRB nRS nRO nG0
  have LESx := Lib.hid (show W.heap.size ≤ sx from by rw [HXSx.out]; exact LB.out)
  have NEG0Sx := Lib.hid (show W.heap.size ≠ sx from by have h1 := LTG0.out; rw [HXSx.out]; omega)
  have NESxG0 := Lib.hid (NEG0Sx.out.symm)
  clear LB LTG0
  go_upto_region 4 with (first | (refine loadPx (.tmp 27) W.heap.size 2 CC (storC x s) tyStore rfl PS.out OG0.out rfl rfl rfl ?_) | (refine storeX (.tmp 5) (.tmp 28) _ (storC x s) _ tyStore rfl (storC_one _ _) (heap_alloc_new _ _) rfl rfl rfl rfl rfl ?_; rw [setRowG_fold]))
  rw [← HV.out]
  (try rw [← HXSx.out])
  clear HV HXSx
  clear OG0 x0 x1
  have OG0 := G0
  have LB := Lib.hid HB.out.size
  have LTG0 := Lib.hid (show W.heap.size < V1.heap.size from Bx.lt G0.out)
  have LTSx := Lib.hid (show sx < V1.heap.size from Bx.lt Sx.out)
  obtain ⟨V2, hV2⟩ : ∃ V, V = V1.alloc (.cells (storC y o) 24) := ⟨_, rfl⟩
  have ha := (Below.refl V1.heap.size V1).alloc (Nat.le_refl _) (.cells (storC y o) 24)
  have hg := heap_alloc_new V1 (.cells (storC y o) 24)
  have nHB := Lib.hid (HB.out.alloc HB.out.size (.cells (storC y o) 24))
  rw [← hV2] at ha hg nHB
  have nRB := Lib.hid (RB.out.go ha)
  have nRS := Lib.hid (RS.out.go ha)
  have nRO := Lib.hid (RO.out.go ha)
  have nG0 := Lib.hid (Bx.go G0.out ha)
  have nSx := Lib.hid (Bx.go Sx.out ha)
  obtain ⟨ox, hox⟩ : ∃ g, g = V1.heap.size := ⟨_, rfl⟩
  rw [← hox] at hg
  have HXOx := Lib.hid hox
  have Ox := Lib.hid hg
  have HV := Lib.hid hV2
  clear ha hg hV2 hox
  clear HB RB RS RO G0 Sx
  have HB := nHB
  have RB := nRB
  have RS := nRS
  have RO := nRO
  have G0 := nG0
  have Sx := nSx
  clear nHB nRB nRS nRO nG0 nSx
  have LEOx := Lib.hid (show W.heap.size ≤ ox from by rw [HXOx.out]; exact LB.out)
  have NEG0Ox := Lib.hid (show W.heap.size ≠ ox from by have h1 := LTG0.out; rw [HXOx.out]; omega)
  have NEOxG0 := Lib.hid (NEG0Ox.out.symm)
  have NESxOx := Lib.hid (show sx ≠ ox from by have h1 := LTSx.out; rw [HXOx.out]; omega)
  have NEOxSx := Lib.hid (NESxOx.out.symm)
  clear LB LTG0 LTSx
  go_upto_region 5 with (first | (refine loadPx (.tmp 29) W.heap.size 4 CC (storC y o) tyStore rfl PO.out OG0.out rfl rfl rfl ?_) | (refine storeX (.tmp 6) (.tmp 30) _ (storC y o) _ tyStore rfl (storC_one _ _) (heap_alloc_new _ _) rfl rfl rfl rfl rfl ?_; rw [setRowG_fold]))
  rw [← HV.out]
  (try rw [← HXOx.out])
  clear HV HXOx
  clear OG0
  go_wp2_with fail
  refine (shown13_any _ (HT.out.below HB.out HT.out.1)).mono ?_
  rintro e w3 ⟨rfl, hb⟩
  have nHB := Lib.hid (belG HB.out hb HB.out.size)
  have nRB := Lib.hid (RB.out.go hb)
  have nRS := Lib.hid (RS.out.go hb)
  have nRO := Lib.hid (RO.out.go hb)
  have nG0 := Lib.hid (Bx.go G0.out hb)
  have nSx := Lib.hid (Bx.go Sx.out hb)
  have nOx := Lib.hid (Bx.go Ox.out hb)
  clear hb
  clear HB RB RS RO G0 Sx Ox
  have HB := nHB
  have RB := nRB
  have RS := nRS
  have RO := nRO
  have G0 := nG0
  have Sx := nSx
  have Ox := nOx
  clear nHB nRB nRS nRO nG0 nSx nOx
  clear G0
  go_upto_region 6 with fail
  by_cases hmk : 100 < m
  case pos =>
    have hmi : (100 : Int) < (m : Int) := by omega
    go_wp2_with fail
    go_ret
    exact ⟨by first | rfl | (simp; done), HB.out⟩
  have hmi : ¬ (100 : Int) < (m : Int) := by omega
  by_cases hfs : fewS s
  case neg =>
    rw [decide_eq_false hfs] at HFS
    go_wp2_with (refine loadX (.tmp 5) sx (storC x s) tyStore rfl Sx.out rfl rfl rfl ?_)
    refine (HFS.out _).mono ?_
    rintro e w4 ⟨rfl, hb⟩
    have nHB := Lib.hid (belG HB.out hb HB.out.size)
    have nRB := Lib.hid (RB.out.go hb)
    have nRS := Lib.hid (RS.out.go hb)
    have nRO := Lib.hid (RO.out.go hb)
    have nSx := Lib.hid (Bx.go Sx.out hb)
    have nOx := Lib.hid (Bx.go Ox.out hb)
    clear hb
    clear HB RB RS RO Sx Ox
    have HB := nHB
    have RB := nRB
    have RS := nRS
    have RO := nRO
    have Sx := nSx
    have Ox := nOx
    clear nHB nRB nRS nRO nSx nOx
    go_wp2_with fail
    go_ret
    exact ⟨by first | rfl | (simp; done), HB.out⟩
  rw [decide_eq_true hfs] at HFS
  by_cases hfo : fewS o
  case neg =>
    rw [decide_eq_false hfo] at HFO
    go_wp2_with (refine loadX (.tmp 5) sx (storC x s) tyStore rfl Sx.out rfl rfl rfl ?_)
    refine (HFS.out _).mono ?_
    rintro e w4 ⟨rfl, hb⟩
    have nHB := Lib.hid (belG HB.out hb HB.out.size)
    have nRB := Lib.hid (RB.out.go hb)
    have nRS := Lib.hid (RS.out.go hb)
    have nRO := Lib.hid (RO.out.go hb)
    have nSx := Lib.hid (Bx.go Sx.out hb)
    have nOx := Lib.hid (Bx.go Ox.out hb)
    clear hb
    clear HB RB RS RO Sx Ox
    have HB := nHB
    have RB := nRB
    have RS := nRS
    have RO := nRO
    have Sx := nSx
    have Ox := nOx
    clear nHB nRB nRS nRO nSx nOx
    go_wp2_with (refine loadX (.tmp 6) ox (storC y o) tyStore rfl Ox.out rfl rfl rfl ?_)
    refine (HFO.out _).mono ?_
    rintro e w5 ⟨rfl, hb⟩
    have nHB := Lib.hid (belG HB.out hb HB.out.size)
    have nRB := Lib.hid (RB.out.go hb)
    have nRS := Lib.hid (RS.out.go hb)
    have nRO := Lib.hid (RO.out.go hb)
    have nSx := Lib.hid (Bx.go Sx.out hb)
    have nOx := Lib.hid (Bx.go Ox.out hb)
    clear hb
    clear HB RB RS RO Sx Ox
    have HB := nHB
    have RB := nRB
    have RS := nRS
    have RO := nRO
    have Sx := nSx
    have Ox := nOx
    clear nHB nRB nRS nRO nSx nOx
    go_wp2_with fail
    go_ret
    exact ⟨by first | rfl | (simp; done), HB.out⟩
  rw [decide_eq_true hfo] at HFO
  have ER := Lib.hid (fun w hT => sRecord_any n w hT HBN.out)
  have DR := Lib.hid (fun w => record13_any n w)
  have EG := Lib.hid (fun w hT (h : KeyB w z b) => sGood_any z b w hT (by have := HM.out; omega) h)
  have DG := Lib.hid (fun w (h : KeyB w z b) => good13_any z b w (by have := HM.out; omega) h)
  rw [← HM.out] at EG DG
  have DH := Lib.hid (fun w => right13_any x s w)
  have EH := Lib.hid (fun w h => sRight_any x s w hfs.k h)
  have ES := Lib.hid (fun w h k => sSame_any x y s o w hfs.k hfo.k h k)
  have DS := Lib.hid (fun w h k => same13_any x y s o w h k)
  have EN := Lib.hid (fun w hT => sNew_any w hT)
  have DN := Lib.hid (fun w => new13_any w)
  have SN := Lib.hid (fun (u v : Wt) w h k => same13_any u v newS newS w h k)
  rw [decide_eq_true (rfl : newS = newS)] at SN
  have EB := Lib.hid (fun w hT hR h => sBest_any x s w hT hR h)
  have DB := Lib.hid (fun w h => best13_any x s w ⟨Nat.le_trans hfs.1 (by decide), Nat.le_trans hfs.2 (by decide)⟩ h)
  obtain ⟨lr, hlr⟩ : ∃ l, l = (recordS n).1 := ⟨_, rfl⟩
  obtain ⟨nr, hnr⟩ : ∃ l, l = (recordS n).2 := ⟨_, rfl⟩
  rw [← hlr, ← hnr] at ER DR
  have SR := Lib.hid (fun (u v : Wkb) w h k => sameB_any u v lr lr w h k)
  rw [decide_eq_true (rfl : lr = lr)] at SR
  obtain ⟨g1, hg1⟩ : ∃ l, l = (goodS b).1 := ⟨_, rfl⟩
  obtain ⟨g2, hg2⟩ : ∃ l, l = (goodS b).2 := ⟨_, rfl⟩
  rw [← hg1, ← hg2] at EG DG
  obtain ⟨b1, hb1⟩ : ∃ l, l = (bestS s).1 := ⟨_, rfl⟩
  obtain ⟨b2, hb2⟩ : ∃ l, l = (bestS s).2.1 := ⟨_, rfl⟩
  obtain ⟨b3, hb3⟩ : ∃ l, l = (bestS s).2.2 := ⟨_, rfl⟩
  rw [← hb1, ← hb2, ← hb3] at EB DB
  obtain ⟨nS, hnS⟩ : ∃ l, l = newS := ⟨_, rfl⟩
  rw [← hnS] at EN DN SN
  have q1 : (nr != nr) = false := by simp
  have q2 : (g1 != g1) = false := by simp
  have q3 : (g2 != g2) = false := by cases g2 <;> rfl
  generalize decide (s = o) = so at *
  have q4 : (so != so) = false := by cases so <;> rfl
  clear hlr hnr hg1 hg2 hb1 hb2 hb3 hnS hfs hfo hmk
  go_wp2_with (refine loadX (.tmp 5) sx (storC x s) tyStore rfl Sx.out rfl rfl rfl ?_)
  refine (HFS.out _).mono ?_
  rintro e w4 ⟨rfl, hb⟩
  have nHB := Lib.hid (belG HB.out hb HB.out.size)
  have nRB := Lib.hid (RB.out.go hb)
  have nRS := Lib.hid (RS.out.go hb)
  have nRO := Lib.hid (RO.out.go hb)
  have nSx := Lib.hid (Bx.go Sx.out hb)
  have nOx := Lib.hid (Bx.go Ox.out hb)
  clear hb
  clear HB RB RS RO Sx Ox
  have HB := nHB
  have RB := nRB
  have RS := nRS
  have RO := nRO
  have Sx := nSx
  have Ox := nOx
  clear nHB nRB nRS nRO nSx nOx
  go_wp2_with (refine loadX (.tmp 6) ox (storC y o) tyStore rfl Ox.out rfl rfl rfl ?_)
  refine (HFO.out _).mono ?_
  rintro e w5 ⟨rfl, hb⟩
  have nHB := Lib.hid (belG HB.out hb HB.out.size)
  have nRB := Lib.hid (RB.out.go hb)
  have nRS := Lib.hid (RS.out.go hb)
  have nRO := Lib.hid (RO.out.go hb)
  have nSx := Lib.hid (Bx.go Sx.out hb)
  have nOx := Lib.hid (Bx.go Ox.out hb)
  clear hb
  clear HB RB RS RO Sx Ox
  have HB := nHB
  have RB := nRB
  have RS := nRS
  have RO := nRO
  have Sx := nSx
  have Ox := nOx
  clear nHB nRB nRS nRO nSx nOx
  go_wp2_with fail
  refine (ER.out _ (HT.out.below HB.out HT.out.1)).mono ?_
  rintro e w6 ⟨⟨v1, rfl, how⟩, hb⟩
  have nHB := Lib.hid (belG HB.out hb HB.out.size)
  have nRB := Lib.hid (RB.out.go hb)
  have nRS := Lib.hid (RS.out.go hb)
  have nRO := Lib.hid (RO.out.go hb)
  have nSx := Lib.hid (Bx.go Sx.out hb)
  have nOx := Lib.hid (Bx.go Ox.out hb)
  clear hb
  clear HB RB RS RO Sx Ox
  have HB := nHB
  have RB := nRB
  have RS := nRS
  have RO := nRO
  have Sx := nSx
  have Ox := nOx
  clear nHB nRB nRS nRO nSx nOx
  obtain ⟨y1, rfl, hk⟩ := how.keyB
  have K1 := Lib.hid hk
  clear hk how
  go_wp2_with fail
  refine (DR.out _).mono ?_
  rintro e w7 ⟨⟨v2, rfl, how⟩, hb⟩
  have nHB := Lib.hid (belG HB.out hb HB.out.size)
  have nRB := Lib.hid (RB.out.go hb)
  have nRS := Lib.hid (RS.out.go hb)
  have nRO := Lib.hid (RO.out.go hb)
  have nK1 := Lib.hid (K1.out.go hb)
  have nSx := Lib.hid (Bx.go Sx.out hb)
  have nOx := Lib.hid (Bx.go Ox.out hb)
  clear hb
  clear HB RB RS RO K1 Sx Ox
  have HB := nHB
  have RB := nRB
  have RS := nRS
  have RO := nRO
  have K1 := nK1
  have Sx := nSx
  have Ox := nOx
  clear nHB nRB nRS nRO nK1 nSx nOx
  obtain ⟨y2, rfl, hk⟩ := how.keyB
  have K2 := Lib.hid hk
  clear hk how
  go_wp2_with fail
  refine (EG.out _ (HT.out.below HB.out HT.out.1) RB.out).mono ?_
  rintro e w8 ⟨rfl, hb⟩
  have nHB := Lib.hid (belG HB.out hb HB.out.size)
  have nRB := Lib.hid (RB.out.go hb)
  have nRS := Lib.hid (RS.out.go hb)
  have nRO := Lib.hid (RO.out.go hb)
  have nK1 := Lib.hid (K1.out.go hb)
  have nK2 := Lib.hid (K2.out.go hb)
  have nSx := Lib.hid (Bx.go Sx.out hb)
  have nOx := Lib.hid (Bx.go Ox.out hb)
  clear hb
  clear HB RB RS RO K1 K2 Sx Ox
  have HB := nHB
  have RB := nRB
  have RS := nRS
  have RO := nRO
  have K1 := nK1
  have K2 := nK2
  have Sx := nSx
  have Ox := nOx
  clear nHB nRB nRS nRO nK1 nK2 nSx nOx
  go_wp2_with fail
  refine (DG.out _ RB.out).mono ?_
  rintro e w9 ⟨rfl, hb⟩
  have nHB := Lib.hid (belG HB.out hb HB.out.size)
  have nRB := Lib.hid (RB.out.go hb)
  have nRS := Lib.hid (RS.out.go hb)
  have nRO := Lib.hid (RO.out.go hb)
  have nK1 := Lib.hid (K1.out.go hb)
  have nK2 := Lib.hid (K2.out.go hb)
  have nSx := Lib.hid (Bx.go Sx.out hb)
  have nOx := Lib.hid (Bx.go Ox.out hb)
  clear hb
  clear HB RB RS RO K1 K2 Sx Ox
  have HB := nHB
  have RB := nRB
  have RS := nRS
  have RO := nRO
  have K1 := nK1
  have K2 := nK2
  have Sx := nSx
  have Ox := nOx
  clear nHB nRB nRS nRO nK1 nK2 nSx nOx
  go_wp2_with (refine loadX (.tmp 5) sx (storC x s) tyStore rfl Sx.out rfl rfl rfl ?_)
  refine (DH.out _).mono ?_
  rintro e w10 ⟨rfl, hb⟩
  have nHB := Lib.hid (belG HB.out hb HB.out.size)
  have nRB := Lib.hid (RB.out.go hb)
  have nRS := Lib.hid (RS.out.go hb)
  have nRO := Lib.hid (RO.out.go hb)
  have nK1 := Lib.hid (K1.out.go hb)
  have nK2 := Lib.hid (K2.out.go hb)
  have nSx := Lib.hid (Bx.go Sx.out hb)
  have nOx := Lib.hid (Bx.go Ox.out hb)
  clear hb
  clear HB RB RS RO K1 K2 Sx Ox
  have HB := nHB
  have RB := nRB
  have RS := nRS
  have RO := nRO
  have K1 := nK1
  have K2 := nK2
  have Sx := nSx
  have Ox := nOx
  clear nHB nRB nRS nRO nK1 nK2 nSx nOx
  have HQ := Lib.hid (show (RightS s → decide (RightS s) = true) ∧ (¬ RightS s → decide (RightS s) = false) from ⟨decide_eq_true, decide_eq_false⟩)
  by_cases hR : RightS s
  · have q5 : (b1 == b1) = true := by simp
    have q6 : (b2 == b2) = true := by simp
    have q7 : (b3 == b3) = true := by cases b3 <;> rfl
    rw [decide_eq_true hR] at EH ⊢
    go_upto_region 13 with fail
    have BB0 := Lib.hid ((Below.refl w10.heap.size w10).drew)
    have KEEP := Lib.hid (fun w' (hW : Below w10.heap.size w10 w') => (show Below w10.heap.size w10 w' from hW))
    refine wp_region_noPanic ?_
    refine wp_region_held_drew (S := fun w' => Below w10.heap.size w10 w') (by kernel_rfl) (KEEP.out _ BB0.out) (fun hHeld => ?_)
    obtain ⟨wz0, hwz⟩ : ∃ x, x = w10.drew := ⟨_, rfl⟩
    rw [← hwz] at BB0 hHeld ⊢
    clear hwz
    refine wpAnyH_take (i := 0) (oi := ?_) (v := ?_) ?_ (by kernel_rfl) (by decide +kernel) (by decide +kernel) (fun _ _ _ h => h) ?_ (by assumption) ?_
    rotate_left 2
    focus (simp only [List.getElem?_toArray, List.getElem?_cons_zero] <;> rfl)
    · refine Or.inl ⟨by rfl, ?_⟩
      intro w hSw
      (try dsimp only at hSw)
      go_simp <;> with_reducible rfl
    (try simp only [Act.put, List.setIfInBounds_toArray, List.set_cons_zero, List.set_cons_succ])
    refine wpAnyH_take (i := 1) (oi := ?_) (v := ?_) ?_ (by kernel_rfl) (by decide +kernel) (by decide +kernel) (fun _ _ _ h => h) ?_ (by assumption) ?_
    rotate_left 2
    focus (simp only [List.getElem?_toArray, List.getElem?_cons_succ, List.getElem?_cons_zero] <;> rfl)
    · refine Or.inl ⟨by rfl, ?_⟩
      intro w hSw
      (try dsimp only at hSw)
      go_simp <;> with_reducible rfl
    (try simp only [Act.put, List.setIfInBounds_toArray, List.set_cons_zero, List.set_cons_succ])
    refine wpAnyH_ready (rs := [2]) (by decide +kernel) (by simp) ?_
    refine AllReadyH.cons rfl (fun K hK => ?_) AllReadyH.nil
    go_simp
    go_at_call 14
    refine (SR.out y1 y2 _ (K1.out.go BB0.out) (K2.out.go BB0.out)).mono ?_
    rintro e wz1 ⟨rfl, hw⟩
    obtain rfl := hw
    refine hK.out _ _ (KEEP.out _ BB0.out) (fun hHeld => ?_)
    clear hK K
    (try simp only [Act.put, List.setIfInBounds_toArray, List.set_cons_zero, List.set_cons_succ])
    refine wpAnyH_take (i := 3) (oi := ?_) (v := ?_) ?_ (by kernel_rfl) (by decide +kernel) (by decide +kernel) (fun _ _ _ h => h) ?_ (by assumption) ?_
    rotate_left 2
    focus (simp only [List.getElem?_toArray, List.getElem?_cons_succ, List.getElem?_cons_zero] <;> rfl)
    · refine Or.inl ⟨by rfl, ?_⟩
      intro w hSw
      (try dsimp only at hSw)
      go_simp <;> with_reducible rfl
    (try simp only [Act.put, List.setIfInBounds_toArray, List.set_cons_zero, List.set_cons_succ])
    refine wpAnyH_take (i := 4) (oi := ?_) (v := ?_) ?_ (by kernel_rfl) (by decide +kernel) (by decide +kernel) (fun _ _ _ h => h) ?_ (by assumption) ?_
    rotate_left 2
    focus (simp only [List.getElem?_toArray, List.getElem?_cons_succ, List.getElem?_cons_zero] <;> rfl)
    · refine Or.inl ⟨by rfl, ?_⟩
      intro w hSw
      (try dsimp only at hSw)
      go_simp <;> with_reducible rfl
    (try simp only [Act.put, List.setIfInBounds_toArray, List.set_cons_zero, List.set_cons_succ])
    refine wpAnyH_take (i := 5) (oi := ?_) (v := ?_) ?_ (by kernel_rfl) (by decide +kernel) (by decide +kernel) (fun _ _ _ h => h) ?_ (by assumption) ?_
    rotate_left 2
    focus (simp only [List.getElem?_toArray, List.getElem?_cons_succ, List.getElem?_cons_zero] <;> rfl)
    · refine Or.inl ⟨by rfl, ?_⟩
      intro w hSw
      (try dsimp only at hSw)
      go_simp <;> with_reducible rfl
    (try simp only [Act.put, List.setIfInBounds_toArray, List.set_cons_zero, List.set_cons_succ])
    refine wpAnyH_take (i := 6) (oi := ?_) (v := ?_) ?_ (by kernel_rfl) (by decide +kernel) (by decide +kernel) (fun _ _ _ h => h) ?_ (by assumption) ?_
    rotate_left 2
    focus (simp only [List.getElem?_toArray, List.getElem?_cons_succ, List.getElem?_cons_zero] <;> rfl)
    · refine Or.inl ⟨by rfl, ?_⟩
      intro w hSw
      (try dsimp only at hSw)
      go_simp <;> with_reducible rfl
    (try simp only [Act.put, List.setIfInBounds_toArray, List.set_cons_zero, List.set_cons_succ])
    refine wpAnyH_take (i := 7) (oi := ?_) (v := ?_) ?_ (by kernel_rfl) (by decide +kernel) (by decide +kernel) (fun _ _ _ h => h) ?_ (by assumption) ?_
    rotate_left 2
    focus (simp only [List.getElem?_toArray, List.getElem?_cons_succ, List.getElem?_cons_zero] <;> rfl)
    · refine Or.inl ⟨by rfl, ?_⟩
      intro w hSw
      (try dsimp only at hSw)
      go_simp <;> with_reducible rfl
    (try simp only [Act.put, List.setIfInBounds_toArray, List.set_cons_zero, List.set_cons_succ])
    refine wpAnyH_take (i := 8) (oi := ?_) (v := ?_) ?_ (by kernel_rfl) (by decide +kernel) (by decide +kernel) (fun _ _ _ h => h) ?_ (by assumption) ?_
    rotate_left 2
    focus (simp only [List.getElem?_toArray, List.getElem?_cons_succ, List.getElem?_cons_zero] <;> rfl)
    · refine Or.inl ⟨by rfl, ?_⟩
      intro w hSw
      (try dsimp only at hSw)
      go_simp <;> with_reducible rfl
    (try simp only [Act.put, List.setIfInBounds_toArray, List.set_cons_zero, List.set_cons_succ])
    refine wpAnyH_take (i := 9) (oi := ?_) (v := ?_) ?_ (by kernel_rfl) (by decide +kernel) (by decide +kernel) (fun _ _ _ h => h) ?_ (by assumption) ?_
    rotate_left 2
    focus (simp only [List.getElem?_toArray, List.getElem?_cons_succ, List.getElem?_cons_zero] <;> rfl)
    · refine Or.inl ⟨by rfl, ?_⟩
      intro w hSw
      (try dsimp only at hSw)
      go_simp <;> with_reducible rfl
    (try simp only [Act.put, List.setIfInBounds_toArray, List.set_cons_zero, List.set_cons_succ])
    refine wpAnyH_take (i := 10) (oi := ?_) (v := ?_) ?_ (by kernel_rfl) (by decide +kernel) (by decide +kernel) (fun _ _ _ h => h) ?_ (by assumption) ?_
    rotate_left 2
    focus (simp only [List.getElem?_toArray, List.getElem?_cons_succ, List.getElem?_cons_zero] <;> rfl)
    · refine Or.inl ⟨by rfl, ?_⟩
      intro w hSw
      (try dsimp only at hSw)
      go_simp <;> with_reducible rfl
    (try simp only [Act.put, List.setIfInBounds_toArray, List.set_cons_zero, List.set_cons_succ])
    refine wpAnyH_take (i := 11) (oi := ?_) (v := ?_) ?_ (by kernel_rfl) (by decide +kernel) (by decide +kernel) (fun _ _ _ h => h) ?_ (by assumption) ?_
    rotate_left 2
    focus (simp only [List.getElem?_toArray, List.getElem?_cons_succ, List.getElem?_cons_zero] <;> rfl)
    · refine Or.inl ⟨by rfl, ?_⟩
      intro w hSw
      (try dsimp only at hSw)
      go_simp <;> with_reducible rfl
    (try simp only [Act.put, List.setIfInBounds_toArray, List.set_cons_zero, List.set_cons_succ])
    refine wpAnyH_take (i := 12) (oi := ?_) (v := ?_) ?_ (by kernel_rfl) (by decide +kernel) (by decide +kernel) (fun _ _ _ h => h) ?_ (by assumption) ?_
    rotate_left 2
    focus (simp only [List.getElem?_toArray, List.getElem?_cons_succ, List.getElem?_cons_zero] <;> rfl)
    · refine Or.inl ⟨by rfl, ?_⟩
      intro w hSw
      (try dsimp only at hSw)
      go_simp <;> with_reducible rfl
    (try simp only [Act.put, List.setIfInBounds_toArray, List.set_cons_zero, List.set_cons_succ])
    refine wpAnyH_take (i := 13) (oi := ?_) (v := ?_) ?_ (by kernel_rfl) (by decide +kernel) (by decide +kernel) (fun _ _ _ h => h) ?_ (by assumption) ?_
    rotate_left 2
    focus (simp only [List.getElem?_toArray, List.getElem?_cons_succ, List.getElem?_cons_zero] <;> rfl)
    · refine Or.inl ⟨by rfl, ?_⟩
      intro w hSw
      (try dsimp only at hSw)
      go_simp <;> with_reducible rfl
    (try simp only [Act.put, List.setIfInBounds_toArray, List.set_cons_zero, List.set_cons_succ])
    refine wpAnyH_take (i := 14) (oi := ?_) (v := ?_) ?_ (by kernel_rfl) (by decide +kernel) (by decide +kernel) (fun _ _ _ h => h) ?_ (by assumption) ?_
    rotate_left 2
    focus (simp only [List.getElem?_toArray, List.getElem?_cons_succ, List.getElem?_cons_zero] <;> rfl)
    · refine Or.inl ⟨by rfl, ?_⟩
      intro w hSw
      (try dsimp only at hSw)
      go_simp <;> with_reducible rfl
    (try simp only [Act.put, List.setIfInBounds_toArray, List.set_cons_zero, List.set_cons_succ])
    refine wpAnyH_take (i := 15) (oi := ?_) (v := ?_) ?_ (by kernel_rfl) (by decide +kernel) (by decide +kernel) (fun _ _ _ h => h) ?_ (by assumption) ?_
    rotate_left 2
    focus (simp only [List.getElem?_toArray, List.getElem?_cons_succ, List.getElem?_cons_zero] <;> rfl)
    · refine Or.inl ⟨by rfl, ?_⟩
      intro w hSw
      (try dsimp only at hSw)
      go_simp <;> with_reducible rfl
    (try simp only [Act.put, List.setIfInBounds_toArray, List.set_cons_zero, List.set_cons_succ])
    refine wpAnyH_take (i := 16) (oi := ?_) (v := ?_) ?_ (by kernel_rfl) (by decide +kernel) (by decide +kernel) (fun _ _ _ h => h) ?_ (by assumption) ?_
    rotate_left 2
    focus (simp only [List.getElem?_toArray, List.getElem?_cons_succ, List.getElem?_cons_zero] <;> rfl)
    · refine Or.inl ⟨by rfl, ?_⟩
      intro w hSw
      (try dsimp only at hSw)
      go_simp <;> with_reducible rfl
    (try simp only [Act.put, List.setIfInBounds_toArray, List.set_cons_zero, List.set_cons_succ])
    refine wpAnyH_take (i := 17) (oi := ?_) (v := ?_) ?_ (by kernel_rfl) (by decide +kernel) (by decide +kernel) (fun _ _ _ h => h) ?_ (by assumption) ?_
    rotate_left 2
    focus (simp only [List.getElem?_toArray, List.getElem?_cons_succ, List.getElem?_cons_zero] <;> rfl)
    · refine Or.inl ⟨by rfl, ?_⟩
      intro w hSw
      (try dsimp only at hSw)
      go_simp <;> with_reducible rfl
    (try simp only [Act.put, List.setIfInBounds_toArray, List.set_cons_zero, List.set_cons_succ])
    refine wpAnyH_take (i := 18) (oi := ?_) (v := ?_) ?_ (by kernel_rfl) (by decide +kernel) (by decide +kernel) (fun _ _ _ h => h) ?_ (by assumption) ?_
    rotate_left 2
    focus (simp only [List.getElem?_toArray, List.getElem?_cons_succ, List.getElem?_cons_zero] <;> rfl)
    · refine Or.inl ⟨by rfl, ?_⟩
      intro w hSw
      (try dsimp only at hSw)
      go_simp <;> with_reducible rfl
    (try simp only [Act.put, List.setIfInBounds_toArray, List.set_cons_zero, List.set_cons_succ])
    refine wpAnyH_take (i := 19) (oi := ?_) (v := ?_) ?_ (by kernel_rfl) (by decide +kernel) (by decide +kernel) (fun _ _ _ h => h) ?_ (by assumption) ?_
    rotate_left 2
    focus (simp only [List.getElem?_toArray, List.getElem?_cons_succ, List.getElem?_cons_zero] <;> rfl)
    · refine Or.inl ⟨by rfl, ?_⟩
      intro w hSw
      (try dsimp only at hSw)
      go_simp <;> with_reducible rfl
    (try simp only [Act.put, List.setIfInBounds_toArray, List.set_cons_zero, List.set_cons_succ])
    refine wpAnyH_ready (rs := [20]) (by decide +kernel) (by simp) ?_
    refine AllReadyH.cons rfl (fun K hK => ?_) AllReadyH.nil
    go_simp
    go_at_call 16
    refine (EN.out _ (HT.out.below (belG HB.out BB0.out HB.out.size) HT.out.1)).mono ?_
    rintro e wz2 ⟨⟨z1, rfl, hk⟩, hb⟩
    have BB2 := Lib.hid (belG BB0.out hb BB0.out.size)
    have RZ_2 := Lib.hid hk
    clear hk
    clear hb
    refine hK.out _ _ (KEEP.out _ BB2.out) (fun hHeld => ?_)
    clear hK K
    (try simp only [Act.put, List.setIfInBounds_toArray, List.set_cons_zero, List.set_cons_succ])
    refine wpAnyH_ready (rs := [21]) (by decide +kernel) (by simp) ?_
    refine AllReadyH.cons rfl (fun K hK => ?_) AllReadyH.nil
    go_simp
    go_at_call 17
    refine (DN.out _).mono ?_
    rintro e wz3 ⟨⟨z2, rfl, hk⟩, hb⟩
    have BB3 := Lib.hid (belG BB2.out hb BB2.out.size)
    have RZ_3 := Lib.hid (RZ_2.out.go hb)
    have RY_3 := Lib.hid hk
    clear hk
    clear hb
    refine hK.out _ _ (KEEP.out _ BB3.out) (fun hHeld => ?_)
    clear hK K
    (try simp only [Act.put, List.setIfInBounds_toArray, List.set_cons_zero, List.set_cons_succ])
    refine wpAnyH_ready (rs := [22]) (by decide +kernel) (by simp) ?_
    refine AllReadyH.cons rfl (fun K hK => ?_) AllReadyH.nil
    go_simp
    go_at_call 15
    refine (SN.out z1 z2 _ RZ_3.out RY_3.out).mono ?_
    rintro e wz4 ⟨rfl, hb⟩
    have BB4 := Lib.hid (belG BB3.out hb BB3.out.size)
    have RZ_4 := Lib.hid (RZ_3.out.go hb)
    have RY_4 := Lib.hid (RY_3.out.go hb)
    clear hb
    refine hK.out _ _ (KEEP.out _ BB4.out) (fun hHeld => ?_)
    clear hK K
    (try simp only [Act.put, List.setIfInBounds_toArray, List.set_cons_zero, List.set_cons_succ])
    refine wpAnyH_take (i := 23) (oi := ?_) (v := ?_) ?_ (by kernel_rfl) (by decide +kernel) (by decide +kernel) (fun _ _ _ h => h) ?_ (by assumption) ?_
    rotate_left 2
    focus (simp only [List.getElem?_toArray, List.getElem?_cons_succ, List.getElem?_cons_zero] <;> rfl)
    · refine Or.inl ⟨by rfl, ?_⟩
      intro w hSw
      (try dsimp only at hSw)
      go_simp <;> with_reducible rfl
    (try simp only [Act.put, List.setIfInBounds_toArray, List.set_cons_zero, List.set_cons_succ])
    refine wpAnyH_take (i := 24) (oi := ?_) (v := ?_) ?_ (by kernel_rfl) (by decide +kernel) (by decide +kernel) (fun _ _ _ h => h) ?_ (by assumption) ?_
    rotate_left 2
    focus (simp only [List.getElem?_toArray, List.getElem?_cons_succ, List.getElem?_cons_zero] <;> rfl)
    · refine Or.inl ⟨by rfl, ?_⟩
      intro w hSw
      (try dsimp only at hSw)
      go_simp <;> with_reducible rfl
    (try simp only [Act.put, List.setIfInBounds_toArray, List.set_cons_zero, List.set_cons_succ])
    refine wpAnyH_take (i := 25) (oi := ?_) (v := ?_) ?_ (by kernel_rfl) (by decide +kernel) (by decide +kernel) (fun _ _ _ h => h) ?_ (by assumption) ?_
    rotate_left 2
    focus (simp only [List.getElem?_toArray, List.getElem?_cons_succ, List.getElem?_cons_zero] <;> rfl)
    · refine Or.inl ⟨by rfl, ?_⟩
      intro w hSw
      (try dsimp only at hSw)
      go_simp <;> with_reducible rfl
    (try simp only [Act.put, List.setIfInBounds_toArray, List.set_cons_zero, List.set_cons_succ])
    refine wpAnyH_take (i := 26) (oi := ?_) (v := .agg (storC x s)) ?_ (by kernel_rfl) (by decide +kernel) (by decide +kernel) (fun _ _ _ h => h) ?_ (by assumption) ?_
    rotate_left 1
    focus (simp only [List.getElem?_toArray, List.getElem?_cons_succ, List.getElem?_cons_zero] <;> rfl)
    · refine yieldsX (T := 24) ?_ (.tmp 5) ?_ ⟨sx, 0, none⟩ ?_ (storC x s) ?_
      focus rfl
      focus exact rfl
      focus exact rfl
      exact fun w hSw => run_loadX tyStore rfl (Bx.go Sx.out hSw)
    (try simp only [Act.put, List.setIfInBounds_toArray, List.set_cons_zero, List.set_cons_succ])
    refine wpAnyH_take (i := 28) (oi := ?_) (v := ?_) ?_ (by kernel_rfl) (by decide +kernel) (by decide +kernel) (fun _ _ _ h => h) ?_ (by assumption) ?_
    rotate_left 2
    focus (simp only [List.getElem?_toArray, List.getElem?_cons_succ, List.getElem?_cons_zero] <;> rfl)
    · refine Or.inl ⟨by rfl, ?_⟩
      intro w hSw
      (try dsimp only at hSw)
      go_simp <;> with_reducible rfl
    (try simp only [Act.put, List.setIfInBounds_toArray, List.set_cons_zero, List.set_cons_succ])
    refine wpAnyH_ready (rs := [27]) (by decide +kernel) (by simp) ?_
    refine AllReadyH.cons rfl (fun K hK => ?_) AllReadyH.nil
    go_simp
    go_at_call 18
    refine (EH.out _ (RS.out.go BB4.out)).mono ?_
    rintro e wz5 ⟨rfl, hb⟩
    have BB5 := Lib.hid (belG BB4.out hb BB4.out.size)
    have RZ_5 := Lib.hid (RZ_4.out.go hb)
    have RY_5 := Lib.hid (RY_4.out.go hb)
    clear hb
    refine hK.out _ _ (KEEP.out _ BB5.out) (fun hHeld => ?_)
    clear hK K
    (try simp only [Act.put, List.setIfInBounds_toArray, List.set_cons_zero, List.set_cons_succ])
    refine wpAnyH_take (i := 29) (oi := ?_) (v := ?_) ?_ (by kernel_rfl) (by decide +kernel) (by decide +kernel) (fun _ _ _ h => h) ?_ (by assumption) ?_
    rotate_left 2
    focus (simp only [List.getElem?_toArray, List.getElem?_cons_succ, List.getElem?_cons_zero] <;> rfl)
    · refine Or.inl ⟨by rfl, ?_⟩
      intro w hSw
      (try dsimp only at hSw)
      go_simp <;> with_reducible rfl
    (try simp only [Act.put, List.setIfInBounds_toArray, List.set_cons_zero, List.set_cons_succ])
    refine wpAnyH_take (i := 30) (oi := ?_) (v := ?_) ?_ (by kernel_rfl) (by decide +kernel) (by decide +kernel) (fun _ _ _ h => h) ?_ (by assumption) ?_
    rotate_left 2
    focus (simp only [List.getElem?_toArray, List.getElem?_cons_succ, List.getElem?_cons_zero] <;> rfl)
    · refine Or.inl ⟨by rfl, ?_⟩
      intro w hSw
      (try dsimp only at hSw)
      go_simp <;> with_reducible rfl
    (try simp only [Act.put, List.setIfInBounds_toArray, List.set_cons_zero, List.set_cons_succ])
    refine wpAnyH_take (i := 31) (oi := ?_) (v := ?_) ?_ (by kernel_rfl) (by decide +kernel) (by decide +kernel) (fun _ _ _ h => h) ?_ (by assumption) ?_
    rotate_left 2
    focus (simp only [List.getElem?_toArray, List.getElem?_cons_succ, List.getElem?_cons_zero] <;> rfl)
    · refine Or.inl ⟨by rfl, ?_⟩
      intro w hSw
      (try dsimp only at hSw)
      go_simp <;> with_reducible rfl
    (try simp only [Act.put, List.setIfInBounds_toArray, List.set_cons_zero, List.set_cons_succ])
    refine wpAnyH_take (i := 32) (oi := ?_) (v := .agg (storC x s)) ?_ (by kernel_rfl) (by decide +kernel) (by decide +kernel) (fun _ _ _ h => h) ?_ (by assumption) ?_
    rotate_left 1
    focus (simp only [List.getElem?_toArray, List.getElem?_cons_succ, List.getElem?_cons_zero] <;> rfl)
    · refine yieldsX (T := 24) ?_ (.tmp 5) ?_ ⟨sx, 0, none⟩ ?_ (storC x s) ?_
      focus rfl
      focus exact rfl
      focus exact rfl
      exact fun w hSw => run_loadX tyStore rfl (Bx.go Sx.out hSw)
    (try simp only [Act.put, List.setIfInBounds_toArray, List.set_cons_zero, List.set_cons_succ])
    refine wpAnyH_take (i := 33) (oi := ?_) (v := .agg (storC y o)) ?_ (by kernel_rfl) (by decide +kernel) (by decide +kernel) (fun _ _ _ h => h) ?_ (by assumption) ?_
    rotate_left 1
    focus (simp only [List.getElem?_toArray, List.getElem?_cons_succ, List.getElem?_cons_zero] <;> rfl)
    · refine yieldsX (T := 24) ?_ (.tmp 6) ?_ ⟨ox, 0, none⟩ ?_ (storC y o) ?_
      focus rfl
      focus exact rfl
      focus exact rfl
      exact fun w hSw => run_loadX tyStore rfl (Bx.go Ox.out hSw)
    (try simp only [Act.put, List.setIfInBounds_toArray, List.set_cons_zero, List.set_cons_succ])
    refine wpAnyH_take (i := 35) (oi := ?_) (v := .agg (storC x s)) ?_ (by kernel_rfl) (by decide +kernel) (by decide +kernel) (fun _ _ _ h => h) ?_ (by assumption) ?_
    rotate_left 1
    focus (simp only [List.getElem?_toArray, List.getElem?_cons_succ, List.getElem?_cons_zero] <;> rfl)
    · refine yieldsX (T := 24) ?_ (.tmp 5) ?_ ⟨sx, 0, none⟩ ?_ (storC x s) ?_
      focus rfl
      focus exact rfl
      focus exact rfl
      exact fun w hSw => run_loadX tyStore rfl (Bx.go Sx.out hSw)
    (try simp only [Act.put, List.setIfInBounds_toArray, List.set_cons_zero, List.set_cons_succ])
    refine wpAnyH_take (i := 36) (oi := ?_) (v := .agg (storC y o)) ?_ (by kernel_rfl) (by decide +kernel) (by decide +kernel) (fun _ _ _ h => h) ?_ (by assumption) ?_
    rotate_left 1
    focus (simp only [List.getElem?_toArray, List.getElem?_cons_succ, List.getElem?_cons_zero] <;> rfl)
    · refine yieldsX (T := 24) ?_ (.tmp 6) ?_ ⟨ox, 0, none⟩ ?_ (storC y o) ?_
      focus rfl
      focus exact rfl
      focus exact rfl
      exact fun w hSw => run_loadX tyStore rfl (Bx.go Ox.out hSw)
    (try simp only [Act.put, List.setIfInBounds_toArray, List.set_cons_zero, List.set_cons_succ])
    refine wpAnyH_ready (rs := [34]) (by decide +kernel) (by simp) ?_
    refine AllReadyH.cons rfl (fun K hK => ?_) AllReadyH.nil
    go_simp
    go_at_call 19
    refine (ES.out _ (RS.out.go BB5.out) (RO.out.go BB5.out)).mono ?_
    rintro e wz6 ⟨rfl, hb⟩
    have BB6 := Lib.hid (belG BB5.out hb BB5.out.size)
    have RZ_6 := Lib.hid (RZ_5.out.go hb)
    have RY_6 := Lib.hid (RY_5.out.go hb)
    clear hb
    refine hK.out _ _ (KEEP.out _ BB6.out) (fun hHeld => ?_)
    clear hK K
    (try simp only [Act.put, List.setIfInBounds_toArray, List.set_cons_zero, List.set_cons_succ])
    refine wpAnyH_ready (rs := [37]) (by decide +kernel) (by simp) ?_
    refine AllReadyH.cons rfl (fun K hK => ?_) AllReadyH.nil
    go_simp
    go_at_call 15
    refine (DS.out _ (RS.out.go BB6.out) (RO.out.go BB6.out)).mono ?_
    rintro e wz7 ⟨rfl, hb⟩
    have BB7 := Lib.hid (belG BB6.out hb BB6.out.size)
    have RZ_7 := Lib.hid (RZ_6.out.go hb)
    have RY_7 := Lib.hid (RY_6.out.go hb)
    clear hb
    refine hK.out _ _ (KEEP.out _ BB7.out) (fun hHeld => ?_)
    clear hK K
    (try simp only [Act.put, List.setIfInBounds_toArray, List.set_cons_zero, List.set_cons_succ])
    refine wpAnyH_take (i := 38) (oi := ?_) (v := ?_) ?_ (by kernel_rfl) (by decide +kernel) (by decide +kernel) (fun _ _ _ h => h) ?_ (by assumption) ?_
    rotate_left 2
    focus (simp only [List.getElem?_toArray, List.getElem?_cons_succ, List.getElem?_cons_zero] <;> rfl)
    · refine Or.inl ⟨by rfl, ?_⟩
      intro w hSw
      (try dsimp only at hSw)
      go_simp <;> with_reducible rfl
    (try simp only [Act.put, List.setIfInBounds_toArray, List.set_cons_zero, List.set_cons_succ])
    refine wpAnyH_take (i := 39) (oi := ?_) (v := ?_) ?_ (by kernel_rfl) (by decide +kernel) (by decide +kernel) (fun _ _ _ h => h) ?_ (by assumption) ?_
    rotate_left 2
    focus (simp only [List.getElem?_toArray, List.getElem?_cons_succ, List.getElem?_cons_zero] <;> rfl)
    · refine Or.inl ⟨by rfl, ?_⟩
      intro w hSw
      (try dsimp only at hSw)
      go_simp <;> with_reducible rfl
    (try simp only [Act.put, List.setIfInBounds_toArray, List.set_cons_zero, List.set_cons_succ])
    refine wpAnyH_done (by decide +kernel) ?_ _
    refine NoPanic.normal ?_
    clear KEEP
    obtain ⟨w11, hw⟩ : ∃ x, x = wz7 := ⟨_, rfl⟩
    have hb : Below w10.heap.size w10 w11 := by rw [hw]; exact BB7.out
    rw [← hw]
    have nHB := Lib.hid (belG HB.out hb HB.out.size)
    have nRB := Lib.hid (RB.out.go hb)
    have nRS := Lib.hid (RS.out.go hb)
    have nRO := Lib.hid (RO.out.go hb)
    have nK1 := Lib.hid (K1.out.go hb)
    have nK2 := Lib.hid (K2.out.go hb)
    have nSx := Lib.hid (Bx.go Sx.out hb)
    have nOx := Lib.hid (Bx.go Ox.out hb)
    clear hb hw
    clear HB RB RS RO K1 K2 Sx Ox
    have HB := nHB
    have RB := nRB
    have RS := nRS
    have RO := nRO
    have K1 := nK1
    have K2 := nK2
    have Sx := nSx
    have Ox := nOx
    clear nHB nRB nRS nRO nK1 nK2 nSx nOx
    go_wp2_with (refine loadX (.tmp 5) sx (storC x s) tyStore rfl Sx.out rfl rfl rfl ?_)
    refine (EB.out _ (HT.out.below HB.out HT.out.1) hR RS.out).mono ?_
    rintro e w12 ⟨rfl, hb⟩
    have nHB := Lib.hid (belG HB.out hb HB.out.size)
    have nRB := Lib.hid (RB.out.go hb)
    have nRS := Lib.hid (RS.out.go hb)
    have nRO := Lib.hid (RO.out.go hb)
    have nK1 := Lib.hid (K1.out.go hb)
    have nK2 := Lib.hid (K2.out.go hb)
    have nSx := Lib.hid (Bx.go Sx.out hb)
    have nOx := Lib.hid (Bx.go Ox.out hb)
    clear hb
    clear HB RB RS RO K1 K2 Sx Ox
    have HB := nHB
    have RB := nRB
    have RS := nRS
    have RO := nRO
    have K1 := nK1
    have K2 := nK2
    have Sx := nSx
    have Ox := nOx
    clear nHB nRB nRS nRO nK1 nK2 nSx nOx
    go_wp2_with (refine loadX (.tmp 5) sx (storC x s) tyStore rfl Sx.out rfl rfl rfl ?_)
    refine (DB.out _ RS.out).mono ?_
    rintro e w13 ⟨rfl, hb⟩
    have nHB := Lib.hid (belG HB.out hb HB.out.size)
    have nRB := Lib.hid (RB.out.go hb)
    have nRS := Lib.hid (RS.out.go hb)
    have nRO := Lib.hid (RO.out.go hb)
    have nK1 := Lib.hid (K1.out.go hb)
    have nK2 := Lib.hid (K2.out.go hb)
    have nSx := Lib.hid (Bx.go Sx.out hb)
    have nOx := Lib.hid (Bx.go Ox.out hb)
    clear hb
    clear HB RB RS RO K1 K2 Sx Ox
    have HB := nHB
    have RB := nRB
    have RS := nRS
    have RO := nRO
    have K1 := nK1
    have K2 := nK2
    have Sx := nSx
    have Ox := nOx
    clear nHB nRB nRS nRO nK1 nK2 nSx nOx
    go_wp2_with fail
    go_ret
    exact ⟨by first | rfl | (simp; done), HB.out⟩
  · rw [decide_eq_false hR] at EH ⊢
    go_upto_region 13 with fail
    have BB0 := Lib.hid ((Below.refl w10.heap.size w10).drew)
    have KEEP := Lib.hid (fun w' (hW : Below w10.heap.size w10 w') => (show Below w10.heap.size w10 w' from hW))
    refine wp_region_noPanic ?_
    refine wp_region_held_drew (S := fun w' => Below w10.heap.size w10 w') (by kernel_rfl) (KEEP.out _ BB0.out) (fun hHeld => ?_)
    obtain ⟨wz0, hwz⟩ : ∃ x, x = w10.drew := ⟨_, rfl⟩
    rw [← hwz] at BB0 hHeld ⊢
    clear hwz
    refine wpAnyH_take (i := 0) (oi := ?_) (v := ?_) ?_ (by kernel_rfl) (by decide +kernel) (by decide +kernel) (fun _ _ _ h => h) ?_ (by assumption) ?_
    rotate_left 2
    focus (simp only [List.getElem?_toArray, List.getElem?_cons_zero] <;> rfl)
    · refine Or.inl ⟨by rfl, ?_⟩
      intro w hSw
      (try dsimp only at hSw)
      go_simp <;> with_reducible rfl
    (try simp only [Act.put, List.setIfInBounds_toArray, List.set_cons_zero, List.set_cons_succ])
    refine wpAnyH_take (i := 1) (oi := ?_) (v := ?_) ?_ (by kernel_rfl) (by decide +kernel) (by decide +kernel) (fun _ _ _ h => h) ?_ (by assumption) ?_
    rotate_left 2
    focus (simp only [List.getElem?_toArray, List.getElem?_cons_succ, List.getElem?_cons_zero] <;> rfl)
    · refine Or.inl ⟨by rfl, ?_⟩
      intro w hSw
      (try dsimp only at hSw)
      go_simp <;> with_reducible rfl
    (try simp only [Act.put, List.setIfInBounds_toArray, List.set_cons_zero, List.set_cons_succ])
    refine wpAnyH_ready (rs := [2]) (by decide +kernel) (by simp) ?_
    refine AllReadyH.cons rfl (fun K hK => ?_) AllReadyH.nil
    go_simp
    go_at_call 14
    refine (SR.out y1 y2 _ (K1.out.go BB0.out) (K2.out.go BB0.out)).mono ?_
    rintro e wz1 ⟨rfl, hw⟩
    obtain rfl := hw
    refine hK.out _ _ (KEEP.out _ BB0.out) (fun hHeld => ?_)
    clear hK K
    (try simp only [Act.put, List.setIfInBounds_toArray, List.set_cons_zero, List.set_cons_succ])
    refine wpAnyH_take (i := 3) (oi := ?_) (v := ?_) ?_ (by kernel_rfl) (by decide +kernel) (by decide +kernel) (fun _ _ _ h => h) ?_ (by assumption) ?_
    rotate_left 2
    focus (simp only [List.getElem?_toArray, List.getElem?_cons_succ, List.getElem?_cons_zero] <;> rfl)
    · refine Or.inl ⟨by rfl, ?_⟩
      intro w hSw
      (try dsimp only at hSw)
      go_simp <;> with_reducible rfl
    (try simp only [Act.put, List.setIfInBounds_toArray, List.set_cons_zero, List.set_cons_succ])
    refine wpAnyH_take (i := 4) (oi := ?_) (v := ?_) ?_ (by kernel_rfl) (by decide +kernel) (by decide +kernel) (fun _ _ _ h => h) ?_ (by assumption) ?_
    rotate_left 2
    focus (simp only [List.getElem?_toArray, List.getElem?_cons_succ, List.getElem?_cons_zero] <;> rfl)
    · refine Or.inl ⟨by rfl, ?_⟩
      intro w hSw
      (try dsimp only at hSw)
      go_simp <;> with_reducible rfl
    (try simp only [Act.put, List.setIfInBounds_toArray, List.set_cons_zero, List.set_cons_succ])
    refine wpAnyH_take (i := 5) (oi := ?_) (v := ?_) ?_ (by kernel_rfl) (by decide +kernel) (by decide +kernel) (fun _ _ _ h => h) ?_ (by assumption) ?_
    rotate_left 2
    focus (simp only [List.getElem?_toArray, List.getElem?_cons_succ, List.getElem?_cons_zero] <;> rfl)
    · refine Or.inl ⟨by rfl, ?_⟩
      intro w hSw
      (try dsimp only at hSw)
      go_simp <;> with_reducible rfl
    (try simp only [Act.put, List.setIfInBounds_toArray, List.set_cons_zero, List.set_cons_succ])
    refine wpAnyH_take (i := 6) (oi := ?_) (v := ?_) ?_ (by kernel_rfl) (by decide +kernel) (by decide +kernel) (fun _ _ _ h => h) ?_ (by assumption) ?_
    rotate_left 2
    focus (simp only [List.getElem?_toArray, List.getElem?_cons_succ, List.getElem?_cons_zero] <;> rfl)
    · refine Or.inl ⟨by rfl, ?_⟩
      intro w hSw
      (try dsimp only at hSw)
      go_simp <;> with_reducible rfl
    (try simp only [Act.put, List.setIfInBounds_toArray, List.set_cons_zero, List.set_cons_succ])
    refine wpAnyH_take (i := 7) (oi := ?_) (v := ?_) ?_ (by kernel_rfl) (by decide +kernel) (by decide +kernel) (fun _ _ _ h => h) ?_ (by assumption) ?_
    rotate_left 2
    focus (simp only [List.getElem?_toArray, List.getElem?_cons_succ, List.getElem?_cons_zero] <;> rfl)
    · refine Or.inl ⟨by rfl, ?_⟩
      intro w hSw
      (try dsimp only at hSw)
      go_simp <;> with_reducible rfl
    (try simp only [Act.put, List.setIfInBounds_toArray, List.set_cons_zero, List.set_cons_succ])
    refine wpAnyH_take (i := 8) (oi := ?_) (v := ?_) ?_ (by kernel_rfl) (by decide +kernel) (by decide +kernel) (fun _ _ _ h => h) ?_ (by assumption) ?_
    rotate_left 2
    focus (simp only [List.getElem?_toArray, List.getElem?_cons_succ, List.getElem?_cons_zero] <;> rfl)
    · refine Or.inl ⟨by rfl, ?_⟩
      intro w hSw
      (try dsimp only at hSw)
      go_simp <;> with_reducible rfl
    (try simp only [Act.put, List.setIfInBounds_toArray, List.set_cons_zero, List.set_cons_succ])
    refine wpAnyH_take (i := 9) (oi := ?_) (v := ?_) ?_ (by kernel_rfl) (by decide +kernel) (by decide +kernel) (fun _ _ _ h => h) ?_ (by assumption) ?_
    rotate_left 2
    focus (simp only [List.getElem?_toArray, List.getElem?_cons_succ, List.getElem?_cons_zero] <;> rfl)
    · refine Or.inl ⟨by rfl, ?_⟩
      intro w hSw
      (try dsimp only at hSw)
      go_simp <;> with_reducible rfl
    (try simp only [Act.put, List.setIfInBounds_toArray, List.set_cons_zero, List.set_cons_succ])
    refine wpAnyH_take (i := 10) (oi := ?_) (v := ?_) ?_ (by kernel_rfl) (by decide +kernel) (by decide +kernel) (fun _ _ _ h => h) ?_ (by assumption) ?_
    rotate_left 2
    focus (simp only [List.getElem?_toArray, List.getElem?_cons_succ, List.getElem?_cons_zero] <;> rfl)
    · refine Or.inl ⟨by rfl, ?_⟩
      intro w hSw
      (try dsimp only at hSw)
      go_simp <;> with_reducible rfl
    (try simp only [Act.put, List.setIfInBounds_toArray, List.set_cons_zero, List.set_cons_succ])
    refine wpAnyH_take (i := 11) (oi := ?_) (v := ?_) ?_ (by kernel_rfl) (by decide +kernel) (by decide +kernel) (fun _ _ _ h => h) ?_ (by assumption) ?_
    rotate_left 2
    focus (simp only [List.getElem?_toArray, List.getElem?_cons_succ, List.getElem?_cons_zero] <;> rfl)
    · refine Or.inl ⟨by rfl, ?_⟩
      intro w hSw
      (try dsimp only at hSw)
      go_simp <;> with_reducible rfl
    (try simp only [Act.put, List.setIfInBounds_toArray, List.set_cons_zero, List.set_cons_succ])
    refine wpAnyH_take (i := 12) (oi := ?_) (v := ?_) ?_ (by kernel_rfl) (by decide +kernel) (by decide +kernel) (fun _ _ _ h => h) ?_ (by assumption) ?_
    rotate_left 2
    focus (simp only [List.getElem?_toArray, List.getElem?_cons_succ, List.getElem?_cons_zero] <;> rfl)
    · refine Or.inl ⟨by rfl, ?_⟩
      intro w hSw
      (try dsimp only at hSw)
      go_simp <;> with_reducible rfl
    (try simp only [Act.put, List.setIfInBounds_toArray, List.set_cons_zero, List.set_cons_succ])
    refine wpAnyH_take (i := 13) (oi := ?_) (v := ?_) ?_ (by kernel_rfl) (by decide +kernel) (by decide +kernel) (fun _ _ _ h => h) ?_ (by assumption) ?_
    rotate_left 2
    focus (simp only [List.getElem?_toArray, List.getElem?_cons_succ, List.getElem?_cons_zero] <;> rfl)
    · refine Or.inl ⟨by rfl, ?_⟩
      intro w hSw
      (try dsimp only at hSw)
      go_simp <;> with_reducible rfl
    (try simp only [Act.put, List.setIfInBounds_toArray, List.set_cons_zero, List.set_cons_succ])
    refine wpAnyH_take (i := 14) (oi := ?_) (v := ?_) ?_ (by kernel_rfl) (by decide +kernel) (by decide +kernel) (fun _ _ _ h => h) ?_ (by assumption) ?_
    rotate_left 2
    focus (simp only [List.getElem?_toArray, List.getElem?_cons_succ, List.getElem?_cons_zero] <;> rfl)
    · refine Or.inl ⟨by rfl, ?_⟩
      intro w hSw
      (try dsimp only at hSw)
      go_simp <;> with_reducible rfl
    (try simp only [Act.put, List.setIfInBounds_toArray, List.set_cons_zero, List.set_cons_succ])
    refine wpAnyH_take (i := 15) (oi := ?_) (v := ?_) ?_ (by kernel_rfl) (by decide +kernel) (by decide +kernel) (fun _ _ _ h => h) ?_ (by assumption) ?_
    rotate_left 2
    focus (simp only [List.getElem?_toArray, List.getElem?_cons_succ, List.getElem?_cons_zero] <;> rfl)
    · refine Or.inl ⟨by rfl, ?_⟩
      intro w hSw
      (try dsimp only at hSw)
      go_simp <;> with_reducible rfl
    (try simp only [Act.put, List.setIfInBounds_toArray, List.set_cons_zero, List.set_cons_succ])
    refine wpAnyH_take (i := 16) (oi := ?_) (v := ?_) ?_ (by kernel_rfl) (by decide +kernel) (by decide +kernel) (fun _ _ _ h => h) ?_ (by assumption) ?_
    rotate_left 2
    focus (simp only [List.getElem?_toArray, List.getElem?_cons_succ, List.getElem?_cons_zero] <;> rfl)
    · refine Or.inl ⟨by rfl, ?_⟩
      intro w hSw
      (try dsimp only at hSw)
      go_simp <;> with_reducible rfl
    (try simp only [Act.put, List.setIfInBounds_toArray, List.set_cons_zero, List.set_cons_succ])
    refine wpAnyH_take (i := 17) (oi := ?_) (v := ?_) ?_ (by kernel_rfl) (by decide +kernel) (by decide +kernel) (fun _ _ _ h => h) ?_ (by assumption) ?_
    rotate_left 2
    focus (simp only [List.getElem?_toArray, List.getElem?_cons_succ, List.getElem?_cons_zero] <;> rfl)
    · refine Or.inl ⟨by rfl, ?_⟩
      intro w hSw
      (try dsimp only at hSw)
      go_simp <;> with_reducible rfl
    (try simp only [Act.put, List.setIfInBounds_toArray, List.set_cons_zero, List.set_cons_succ])
    refine wpAnyH_take (i := 18) (oi := ?_) (v := ?_) ?_ (by kernel_rfl) (by decide +kernel) (by decide +kernel) (fun _ _ _ h => h) ?_ (by assumption) ?_
    rotate_left 2
    focus (simp only [List.getElem?_toArray, List.getElem?_cons_succ, List.getElem?_cons_zero] <;> rfl)
    · refine Or.inl ⟨by rfl, ?_⟩
      intro w hSw
      (try dsimp only at hSw)
      go_simp <;> with_reducible rfl
    (try simp only [Act.put, List.setIfInBounds_toArray, List.set_cons_zero, List.set_cons_succ])
    refine wpAnyH_take (i := 19) (oi := ?_) (v := ?_) ?_ (by kernel_rfl) (by decide +kernel) (by decide +kernel) (fun _ _ _ h => h) ?_ (by assumption) ?_
    rotate_left 2
    focus (simp only [List.getElem?_toArray, List.getElem?_cons_succ, List.getElem?_cons_zero] <;> rfl)
    · refine Or.inl ⟨by rfl, ?_⟩
      intro w hSw
      (try dsimp only at hSw)
      go_simp <;> with_reducible rfl
    (try simp only [Act.put, List.setIfInBounds_toArray, List.set_cons_zero, List.set_cons_succ])
    refine wpAnyH_ready (rs := [20]) (by decide +kernel) (by simp) ?_
    refine AllReadyH.cons rfl (fun K hK => ?_) AllReadyH.nil
    go_simp
    go_at_call 16
    refine (EN.out _ (HT.out.below (belG HB.out BB0.out HB.out.size) HT.out.1)).mono ?_
    rintro e wz2 ⟨⟨z1, rfl, hk⟩, hb⟩
    have BB2 := Lib.hid (belG BB0.out hb BB0.out.size)
    have RZ_2 := Lib.hid hk
    clear hk
    clear hb
    refine hK.out _ _ (KEEP.out _ BB2.out) (fun hHeld => ?_)
    clear hK K
    (try simp only [Act.put, List.setIfInBounds_toArray, List.set_cons_zero, List.set_cons_succ])
    refine wpAnyH_ready (rs := [21]) (by decide +kernel) (by simp) ?_
    refine AllReadyH.cons rfl (fun K hK => ?_) AllReadyH.nil
    go_simp
    go_at_call 17
    refine (DN.out _).mono ?_
    rintro e wz3 ⟨⟨z2, rfl, hk⟩, hb⟩
    have BB3 := Lib.hid (belG BB2.out hb BB2.out.size)
    have RZ_3 := Lib.hid (RZ_2.out.go hb)
    have RY_3 := Lib.hid hk
    clear hk
    clear hb
    refine hK.out _ _ (KEEP.out _ BB3.out) (fun hHeld => ?_)
    clear hK K
    (try simp only [Act.put, List.setIfInBounds_toArray, List.set_cons_zero, List.set_cons_succ])
    refine wpAnyH_ready (rs := [22]) (by decide +kernel) (by simp) ?_
    refine AllReadyH.cons rfl (fun K hK => ?_) AllReadyH.nil
    go_simp
    go_at_call 15
    refine (SN.out z1 z2 _ RZ_3.out RY_3.out).mono ?_
    rintro e wz4 ⟨rfl, hb⟩
    have BB4 := Lib.hid (belG BB3.out hb BB3.out.size)
    have RZ_4 := Lib.hid (RZ_3.out.go hb)
    have RY_4 := Lib.hid (RY_3.out.go hb)
    clear hb
    refine hK.out _ _ (KEEP.out _ BB4.out) (fun hHeld => ?_)
    clear hK K
    (try simp only [Act.put, List.setIfInBounds_toArray, List.set_cons_zero, List.set_cons_succ])
    refine wpAnyH_take (i := 23) (oi := ?_) (v := ?_) ?_ (by kernel_rfl) (by decide +kernel) (by decide +kernel) (fun _ _ _ h => h) ?_ (by assumption) ?_
    rotate_left 2
    focus (simp only [List.getElem?_toArray, List.getElem?_cons_succ, List.getElem?_cons_zero] <;> rfl)
    · refine Or.inl ⟨by rfl, ?_⟩
      intro w hSw
      (try dsimp only at hSw)
      go_simp <;> with_reducible rfl
    (try simp only [Act.put, List.setIfInBounds_toArray, List.set_cons_zero, List.set_cons_succ])
    refine wpAnyH_take (i := 24) (oi := ?_) (v := ?_) ?_ (by kernel_rfl) (by decide +kernel) (by decide +kernel) (fun _ _ _ h => h) ?_ (by assumption) ?_
    rotate_left 2
    focus (simp only [List.getElem?_toArray, List.getElem?_cons_succ, List.getElem?_cons_zero] <;> rfl)
    · refine Or.inl ⟨by rfl, ?_⟩
      intro w hSw
      (try dsimp only at hSw)
      go_simp <;> with_reducible rfl
    (try simp only [Act.put, List.setIfInBounds_toArray, List.set_cons_zero, List.set_cons_succ])
    refine wpAnyH_take (i := 25) (oi := ?_) (v := ?_) ?_ (by kernel_rfl) (by decide +kernel) (by decide +kernel) (fun _ _ _ h => h) ?_ (by assumption) ?_
    rotate_left 2
    focus (simp only [List.getElem?_toArray, List.getElem?_cons_succ, List.getElem?_cons_zero] <;> rfl)
    · refine Or.inl ⟨by rfl, ?_⟩
      intro w hSw
      (try dsimp only at hSw)
      go_simp <;> with_reducible rfl
    (try simp only [Act.put, List.setIfInBounds_toArray, List.set_cons_zero, List.set_cons_succ])
    refine wpAnyH_take (i := 26) (oi := ?_) (v := .agg (storC x s)) ?_ (by kernel_rfl) (by decide +kernel) (by decide +kernel) (fun _ _ _ h => h) ?_ (by assumption) ?_
    rotate_left 1
    focus (simp only [List.getElem?_toArray, List.getElem?_cons_succ, List.getElem?_cons_zero] <;> rfl)
    · refine yieldsX (T := 24) ?_ (.tmp 5) ?_ ⟨sx, 0, none⟩ ?_ (storC x s) ?_
      focus rfl
      focus exact rfl
      focus exact rfl
      exact fun w hSw => run_loadX tyStore rfl (Bx.go Sx.out hSw)
    (try simp only [Act.put, List.setIfInBounds_toArray, List.set_cons_zero, List.set_cons_succ])
    refine wpAnyH_take (i := 28) (oi := ?_) (v := ?_) ?_ (by kernel_rfl) (by decide +kernel) (by decide +kernel) (fun _ _ _ h => h) ?_ (by assumption) ?_
    rotate_left 2
    focus (simp only [List.getElem?_toArray, List.getElem?_cons_succ, List.getElem?_cons_zero] <;> rfl)
    · refine Or.inl ⟨by rfl, ?_⟩
      intro w hSw
      (try dsimp only at hSw)
      go_simp <;> with_reducible rfl
    (try simp only [Act.put, List.setIfInBounds_toArray, List.set_cons_zero, List.set_cons_succ])
    refine wpAnyH_ready (rs := [27]) (by decide +kernel) (by simp) ?_
    refine AllReadyH.cons rfl (fun K hK => ?_) AllReadyH.nil
    go_simp
    go_at_call 18
    refine (EH.out _ (RS.out.go BB4.out)).mono ?_
    rintro e wz5 ⟨rfl, hb⟩
    have BB5 := Lib.hid (belG BB4.out hb BB4.out.size)
    have RZ_5 := Lib.hid (RZ_4.out.go hb)
    have RY_5 := Lib.hid (RY_4.out.go hb)
    clear hb
    refine hK.out _ _ (KEEP.out _ BB5.out) (fun hHeld => ?_)
    clear hK K
    (try simp only [Act.put, List.setIfInBounds_toArray, List.set_cons_zero, List.set_cons_succ])
    refine wpAnyH_take (i := 29) (oi := ?_) (v := ?_) ?_ (by kernel_rfl) (by decide +kernel) (by decide +kernel) (fun _ _ _ h => h) ?_ (by assumption) ?_
    rotate_left 2
    focus (simp only [List.getElem?_toArray, List.getElem?_cons_succ, List.getElem?_cons_zero] <;> rfl)
    · refine Or.inl ⟨by rfl, ?_⟩
      intro w hSw
      (try dsimp only at hSw)
      go_simp <;> with_reducible rfl
    (try simp only [Act.put, List.setIfInBounds_toArray, List.set_cons_zero, List.set_cons_succ])
    refine wpAnyH_take (i := 30) (oi := ?_) (v := ?_) ?_ (by kernel_rfl) (by decide +kernel) (by decide +kernel) (fun _ _ _ h => h) ?_ (by assumption) ?_
    rotate_left 2
    focus (simp only [List.getElem?_toArray, List.getElem?_cons_succ, List.getElem?_cons_zero] <;> rfl)
    · refine Or.inl ⟨by rfl, ?_⟩
      intro w hSw
      (try dsimp only at hSw)
      go_simp <;> with_reducible rfl
    (try simp only [Act.put, List.setIfInBounds_toArray, List.set_cons_zero, List.set_cons_succ])
    refine wpAnyH_take (i := 31) (oi := ?_) (v := ?_) ?_ (by kernel_rfl) (by decide +kernel) (by decide +kernel) (fun _ _ _ h => h) ?_ (by assumption) ?_
    rotate_left 2
    focus (simp only [List.getElem?_toArray, List.getElem?_cons_succ, List.getElem?_cons_zero] <;> rfl)
    · refine Or.inl ⟨by rfl, ?_⟩
      intro w hSw
      (try dsimp only at hSw)
      go_simp <;> with_reducible rfl
    (try simp only [Act.put, List.setIfInBounds_toArray, List.set_cons_zero, List.set_cons_succ])
    refine wpAnyH_take (i := 32) (oi := ?_) (v := .agg (storC x s)) ?_ (by kernel_rfl) (by decide +kernel) (by decide +kernel) (fun _ _ _ h => h) ?_ (by assumption) ?_
    rotate_left 1
    focus (simp only [List.getElem?_toArray, List.getElem?_cons_succ, List.getElem?_cons_zero] <;> rfl)
    · refine yieldsX (T := 24) ?_ (.tmp 5) ?_ ⟨sx, 0, none⟩ ?_ (storC x s) ?_
      focus rfl
      focus exact rfl
      focus exact rfl
      exact fun w hSw => run_loadX tyStore rfl (Bx.go Sx.out hSw)
    (try simp only [Act.put, List.setIfInBounds_toArray, List.set_cons_zero, List.set_cons_succ])
    refine wpAnyH_take (i := 33) (oi := ?_) (v := .agg (storC y o)) ?_ (by kernel_rfl) (by decide +kernel) (by decide +kernel) (fun _ _ _ h => h) ?_ (by assumption) ?_
    rotate_left 1
    focus (simp only [List.getElem?_toArray, List.getElem?_cons_succ, List.getElem?_cons_zero] <;> rfl)
    · refine yieldsX (T := 24) ?_ (.tmp 6) ?_ ⟨ox, 0, none⟩ ?_ (storC y o) ?_
      focus rfl
      focus exact rfl
      focus exact rfl
      exact fun w hSw => run_loadX tyStore rfl (Bx.go Ox.out hSw)
    (try simp only [Act.put, List.setIfInBounds_toArray, List.set_cons_zero, List.set_cons_succ])
    refine wpAnyH_take (i := 35) (oi := ?_) (v := .agg (storC x s)) ?_ (by kernel_rfl) (by decide +kernel) (by decide +kernel) (fun _ _ _ h => h) ?_ (by assumption) ?_
    rotate_left 1
    focus (simp only [List.getElem?_toArray, List.getElem?_cons_succ, List.getElem?_cons_zero] <;> rfl)
    · refine yieldsX (T := 24) ?_ (.tmp 5) ?_ ⟨sx, 0, none⟩ ?_ (storC x s) ?_
      focus rfl
      focus exact rfl
      focus exact rfl
      exact fun w hSw => run_loadX tyStore rfl (Bx.go Sx.out hSw)
    (try simp only [Act.put, List.setIfInBounds_toArray, List.set_cons_zero, List.set_cons_succ])
    refine wpAnyH_take (i := 36) (oi := ?_) (v := .agg (storC y o)) ?_ (by kernel_rfl) (by decide +kernel) (by decide +kernel) (fun _ _ _ h => h) ?_ (by assumption) ?_
    rotate_left 1
    focus (simp only [List.getElem?_toArray, List.getElem?_cons_succ, List.getElem?_cons_zero] <;> rfl)
    · refine yieldsX (T := 24) ?_ (.tmp 6) ?_ ⟨ox, 0, none⟩ ?_ (storC y o) ?_
      focus rfl
      focus exact rfl
      focus exact rfl
      exact fun w hSw => run_loadX tyStore rfl (Bx.go Ox.out hSw)
    (try simp only [Act.put, List.setIfInBounds_toArray, List.set_cons_zero, List.set_cons_succ])
    refine wpAnyH_ready (rs := [34]) (by decide +kernel) (by simp) ?_
    refine AllReadyH.cons rfl (fun K hK => ?_) AllReadyH.nil
    go_simp
    go_at_call 19
    refine (ES.out _ (RS.out.go BB5.out) (RO.out.go BB5.out)).mono ?_
    rintro e wz6 ⟨rfl, hb⟩
    have BB6 := Lib.hid (belG BB5.out hb BB5.out.size)
    have RZ_6 := Lib.hid (RZ_5.out.go hb)
    have RY_6 := Lib.hid (RY_5.out.go hb)
    clear hb
    refine hK.out _ _ (KEEP.out _ BB6.out) (fun hHeld => ?_)
    clear hK K
    (try simp only [Act.put, List.setIfInBounds_toArray, List.set_cons_zero, List.set_cons_succ])
    refine wpAnyH_ready (rs := [37]) (by decide +kernel) (by simp) ?_
    refine AllReadyH.cons rfl (fun K hK => ?_) AllReadyH.nil
    go_simp
    go_at_call 15
    refine (DS.out _ (RS.out.go BB6.out) (RO.out.go BB6.out)).mono ?_
    rintro e wz7 ⟨rfl, hb⟩
    have BB7 := Lib.hid (belG BB6.out hb BB6.out.size)
    have RZ_7 := Lib.hid (RZ_6.out.go hb)
    have RY_7 := Lib.hid (RY_6.out.go hb)
    clear hb
    refine hK.out _ _ (KEEP.out _ BB7.out) (fun hHeld => ?_)
    clear hK K
    (try simp only [Act.put, List.setIfInBounds_toArray, List.set_cons_zero, List.set_cons_succ])
    refine wpAnyH_take (i := 38) (oi := ?_) (v := ?_) ?_ (by kernel_rfl) (by decide +kernel) (by decide +kernel) (fun _ _ _ h => h) ?_ (by assumption) ?_
    rotate_left 2
    focus (simp only [List.getElem?_toArray, List.getElem?_cons_succ, List.getElem?_cons_zero] <;> rfl)
    · refine Or.inl ⟨by rfl, ?_⟩
      intro w hSw
      (try dsimp only at hSw)
      go_simp <;> with_reducible rfl
    (try simp only [Act.put, List.setIfInBounds_toArray, List.set_cons_zero, List.set_cons_succ])
    refine wpAnyH_take (i := 39) (oi := ?_) (v := ?_) ?_ (by kernel_rfl) (by decide +kernel) (by decide +kernel) (fun _ _ _ h => h) ?_ (by assumption) ?_
    rotate_left 2
    focus (simp only [List.getElem?_toArray, List.getElem?_cons_succ, List.getElem?_cons_zero] <;> rfl)
    · refine Or.inl ⟨by rfl, ?_⟩
      intro w hSw
      (try dsimp only at hSw)
      go_simp <;> with_reducible rfl
    (try simp only [Act.put, List.setIfInBounds_toArray, List.set_cons_zero, List.set_cons_succ])
    refine wpAnyH_done (by decide +kernel) ?_ _
    refine NoPanic.normal ?_
    clear KEEP
    obtain ⟨w11, hw⟩ : ∃ x, x = wz7 := ⟨_, rfl⟩
    have hb : Below w10.heap.size w10 w11 := by rw [hw]; exact BB7.out
    rw [← hw]
    have nHB := Lib.hid (belG HB.out hb HB.out.size)
    have nRB := Lib.hid (RB.out.go hb)
    have nRS := Lib.hid (RS.out.go hb)
    have nRO := Lib.hid (RO.out.go hb)
    have nK1 := Lib.hid (K1.out.go hb)
    have nK2 := Lib.hid (K2.out.go hb)
    have nSx := Lib.hid (Bx.go Sx.out hb)
    have nOx := Lib.hid (Bx.go Ox.out hb)
    clear hb hw
    clear HB RB RS RO K1 K2 Sx Ox
    have HB := nHB
    have RB := nRB
    have RS := nRS
    have RO := nRO
    have K1 := nK1
    have K2 := nK2
    have Sx := nSx
    have Ox := nOx
    clear nHB nRB nRS nRO nK1 nK2 nSx nOx
    go_wp2_with fail
    go_ret
    exact ⟨by first | rfl | (simp; done), HB.out⟩
end Go.Proofs.YtfppcmhhbheaiaaDoor
