
/- AskEnds' walk. -/
import Derived.Test.YtegekmgelnkdbaaAqS
namespace Go.Proofs.Ytegekmgelnkdbaa
open Go.RowKit

set_option maxRecDepth 100000 in
set_option maxHeartbeats 1600000 in
theorem askEnds_walk (x : Wkb) (a : Aq) (W : World) (h64 : Aq64 a) (hx : AqR W x a) (hT : Tas W) :
    Calls Try.prog 5 #[.agg (askC x a)] W fun e W' => e = .returned (.bool true) ∧ Below W.heap.size W W' := by
  have HT := Lib.hid hT
  clear hT
  have RA := Lib.hid hx
  have CR := Lib.hid (fun w => right15_any x a w)
  have CN := Lib.hid (fun w => none15_any x a w)
  clear hx
  by_cases hR : RightA a
  case neg =>
    rw [decide_eq_false hR] at CR
    obtain ⟨V0, hV, hb, hg⟩ := bx1 W 24 (askC x a)
    have HB := Lib.hid hb
    have Ga := Lib.hid hg
    have HV := Lib.hid hV
    have nRA := Lib.hid (RA.out.go hb)
    clear RA
    have RA := nRA
    clear nRA
    clear hb hg hV
    go_enter Try.func5, Try.ntmps5
    go_upto_region 1 with (fail)
    rw [← HV.out]
    clear HV
    go_wp2_with fail
    refine (shown15_any _ (HT.out.below HB.out)).mono ?_
    rintro e w1 ⟨rfl, hb⟩
    have nHB := Lib.hid (belG HB.out hb HB.out.size)
    have nRA := Lib.hid (RA.out.go hb)
    have nGa := Lib.hid (Bx.go Ga.out hb)
    clear hb
    clear HB RA Ga
    have HB := nHB
    have RA := nRA
    have Ga := nGa
    clear nHB nRA nGa
    go_wp2_with (refine loadX (.tmp 1) W.heap.size (askC x a) tyAsk rfl Ga.out rfl rfl rfl ?_)
    refine (CR.out _).mono ?_
    rintro e w2 ⟨rfl, hb⟩
    have nHB := Lib.hid (belG HB.out hb HB.out.size)
    have nRA := Lib.hid (RA.out.go hb)
    have nGa := Lib.hid (Bx.go Ga.out hb)
    clear hb
    clear HB RA Ga
    have HB := nHB
    have RA := nRA
    have Ga := nGa
    clear nHB nRA nGa
    go_wp2_with fail
    go_ret
    exact ⟨by first | rfl | (simp; done), HB.out⟩
  rw [decide_eq_true hR] at CR
  by_cases hN : NoneA a
  case pos =>
    rw [decide_eq_true hN] at CN
    obtain ⟨V0, hV, hb, hg⟩ := bx1 W 24 (askC x a)
    have HB := Lib.hid hb
    have Ga := Lib.hid hg
    have HV := Lib.hid hV
    have nRA := Lib.hid (RA.out.go hb)
    clear RA
    have RA := nRA
    clear nRA
    clear hb hg hV
    go_enter Try.func5, Try.ntmps5
    go_upto_region 1 with (fail)
    rw [← HV.out]
    clear HV
    go_wp2_with fail
    refine (shown15_any _ (HT.out.below HB.out)).mono ?_
    rintro e w1 ⟨rfl, hb⟩
    have nHB := Lib.hid (belG HB.out hb HB.out.size)
    have nRA := Lib.hid (RA.out.go hb)
    have nGa := Lib.hid (Bx.go Ga.out hb)
    clear hb
    clear HB RA Ga
    have HB := nHB
    have RA := nRA
    have Ga := nGa
    clear nHB nRA nGa
    go_wp2_with (refine loadX (.tmp 1) W.heap.size (askC x a) tyAsk rfl Ga.out rfl rfl rfl ?_)
    refine (CR.out _).mono ?_
    rintro e w2 ⟨rfl, hb⟩
    have nHB := Lib.hid (belG HB.out hb HB.out.size)
    have nRA := Lib.hid (RA.out.go hb)
    have nGa := Lib.hid (Bx.go Ga.out hb)
    clear hb
    clear HB RA Ga
    have HB := nHB
    have RA := nRA
    have Ga := nGa
    clear nHB nRA nGa
    go_wp2_with (refine loadX (.tmp 1) W.heap.size (askC x a) tyAsk rfl Ga.out rfl rfl rfl ?_)
    refine (CN.out _).mono ?_
    rintro e w3 ⟨rfl, hb⟩
    have nHB := Lib.hid (belG HB.out hb HB.out.size)
    have nRA := Lib.hid (RA.out.go hb)
    have nGa := Lib.hid (Bx.go Ga.out hb)
    clear hb
    clear HB RA Ga
    have HB := nHB
    have RA := nRA
    have Ga := nGa
    clear nHB nRA nGa
    go_wp2_with fail
    go_ret
    exact ⟨by first | rfl | (simp; done), HB.out⟩
  rw [decide_eq_false hN] at CN
  obtain ⟨t1, t2, -⟩ := tick_some hR hN
  have hI0 : EndI a a a.left 0 := ⟨hR, by rw [if_pos (by omega)]; exact ⟨hN, by omega, rfl, rfl, rfl, rfl⟩⟩
  have STEP := Lib.hid (fun x left i h (hi : (0 : Int) ≤ i) => ends_step (a := a) (x := x) (left := left) (i := i) hR hN h hi)
  have hdl : 1 ≤ a.due ∧ a.due ≤ 8 ∧ 0 ≤ a.left ∧ a.left ≤ 3 := by
    rcases hR with h | h
    · exact absurd h hN
    · exact h.2
  have hcs : B64a a.code ∧ B64a a.stan := ⟨h64.1, h64.2.1⟩
  obtain ⟨E, hE⟩ : ∃ e, e = endA a := ⟨_, rfl⟩
  obtain ⟨D, hD⟩ : ∃ e, e = a.due := ⟨_, rfl⟩
  obtain ⟨L, hL⟩ : ∃ e, e = a.left := ⟨_, rfl⟩
  obtain ⟨Cc, hCc⟩ : ∃ e, e = a.code := ⟨_, rfl⟩
  obtain ⟨Ss, hSs⟩ : ∃ e, e = a.stan := ⟨_, rfl⟩
  obtain ⟨na, hna⟩ : ∃ e, e = a.body.length := ⟨_, rfl⟩
  have HXA := Lib.hid (fun w (h : BxQ w W.heap.size x a) => show w.cell? ⟨W.heap.size, 0, none⟩ = some (.int .i64 Cc) ∧ w.cell? ⟨W.heap.size, 1, none⟩ = some (.int .i64 Ss) ∧ w.cell? ⟨W.heap.size, 2, none⟩ = some (.int .i64 D) ∧ w.cell? ⟨W.heap.size, 3, none⟩ = some (.int .i64 L) ∧ w.cell? ⟨W.heap.size, 4, none⟩ = some (.slice x.1 na x.2) from by rw [hCc, hSs, hD, hL, hna]; exact ⟨h.cell rfl, h.cell rfl, h.cell rfl, h.cell rfl, h.cell rfl⟩)
  have HI0 := Lib.hid hI0
  have hES : E = D + 8 * L := by rw [hE, hD, hL]; rfl
  rw [← hE] at t1 t2
  rw [← hD, ← hL] at hdl
  obtain ⟨d1, d2, l1, l2⟩ := hdl
  obtain ⟨L8, hL8⟩ : ∃ e, e = 8 * L := ⟨_, rfl⟩
  have e1 : 8 * L = L8 := hL8.symm
  have e2 : D + L8 = E := by omega
  have l80 : 0 ≤ L8 := by omega
  have l81 : L8 ≤ 24 := by omega
  have HNA := Lib.hid hna
  have HCS := Lib.hid (show B64a Cc ∧ B64a Ss from by rw [hCc, hSs]; exact hcs)
  have HLE := Lib.hid hL
  have STP := Lib.hid (show ∀ p left (i : Int), EndI a p left i → 0 ≤ i → RightA p ∧ ∃ y ag gv, tickA p = (y, ag, gv) ∧ ag = decide (D ≤ i + 1 ∧ (i + 1 - D) % 8 = 0 ∧ i + 1 < E) ∧ gv = decide (i + 1 = E) ∧ (i + 1 < E → decide (MatchA y Cc Ss) = true ∧ y.body = a.body) ∧ (E ≤ i + 1 → decide (NoneA y) = true) ∧ EndI a y (if ag = true then left - 1 else left) (i + 1) ∧ RightA y ∧ (i < E → 0 ≤ left ∧ left ≤ 3) from by
    intro p left i h hi
    obtain ⟨y, ag, gv, h1, h2, h3, h4, h5, h6⟩ := STEP.out p left i h hi
    rw [hD, hE, hCc, hSs]
    refine ⟨h.1, y, ag, gv, h1, h2, h3, fun k => ⟨decide_eq_true (h4 k).1, (h4 k).2⟩, fun k => decide_eq_true (h5 k), h6, h6.1, fun k => ?_⟩
    have h7 := h.2
    rw [if_pos k] at h7
    obtain ⟨g1, -, -, -, -, g2⟩ := h7
    rcases h.1 with q | q
    · exact absurd q g1
    · rw [← g2]; exact q.2.2.2)
  have HEND := Lib.hid (show ∀ p left (i : Int), EndI a p left i → E ≤ i → left = 0 from by
    intro p left i h hi
    have h7 := h.2
    rw [if_neg (by rw [← hE]; omega)] at h7
    exact h7.2)
  clear hE hD hL hCc hSs hna hL8 hI0 STEP hR hN h64 hcs hES
  obtain ⟨V0, hV, hb, hg⟩ := bx1 W 24 (askC x a)
  have HB := Lib.hid hb
  have Ga := Lib.hid hg
  have HV := Lib.hid hV
  have nRA := Lib.hid (RA.out.go hb)
  clear RA
  have RA := nRA
  clear nRA
  clear hb hg hV
  go_enter Try.func5, Try.ntmps5
  go_upto_region 1 with (fail)
  rw [← HV.out]
  clear HV
  go_wp2_with fail
  refine (shown15_any _ (HT.out.below HB.out)).mono ?_
  rintro e w1 ⟨rfl, hb⟩
  have nHB := Lib.hid (belG HB.out hb HB.out.size)
  have nRA := Lib.hid (RA.out.go hb)
  have nGa := Lib.hid (Bx.go Ga.out hb)
  clear hb
  clear HB RA Ga
  have HB := nHB
  have RA := nRA
  have Ga := nGa
  clear nHB nRA nGa
  go_wp2_with (refine loadX (.tmp 1) W.heap.size (askC x a) tyAsk rfl Ga.out rfl rfl rfl ?_)
  refine (CR.out _).mono ?_
  rintro e w2 ⟨rfl, hb⟩
  have nHB := Lib.hid (belG HB.out hb HB.out.size)
  have nRA := Lib.hid (RA.out.go hb)
  have nGa := Lib.hid (Bx.go Ga.out hb)
  clear hb
  clear HB RA Ga
  have HB := nHB
  have RA := nRA
  have Ga := nGa
  clear nHB nRA nGa
  go_wp2_with (refine loadX (.tmp 1) W.heap.size (askC x a) tyAsk rfl Ga.out rfl rfl rfl ?_)
  refine (CN.out _).mono ?_
  rintro e w3 ⟨rfl, hb⟩
  have nHB := Lib.hid (belG HB.out hb HB.out.size)
  have nRA := Lib.hid (RA.out.go hb)
  have nGa := Lib.hid (Bx.go Ga.out hb)
  clear hb
  clear HB RA Ga
  have HB := nHB
  have RA := nRA
  have Ga := nGa
  clear nHB nRA nGa
  obtain ⟨x0, x1, x2, x3, x4⟩ := HXA.out _ Ga.out
  have f0 := x3
  have OGa := Ga
  have LB := Lib.hid HB.out.size
  have LTGa := Lib.hid (show W.heap.size < w3.heap.size from Bx.lt Ga.out)
  obtain ⟨V3, hV3⟩ : ∃ V, V = w3.alloc (.cells (askC x a) 24) := ⟨_, rfl⟩
  have ha := (Below.refl w3.heap.size w3).alloc (Nat.le_refl _) (.cells (askC x a) 24)
  have hg := heap_alloc_new w3 (.cells (askC x a) 24)
  have nHB := Lib.hid (HB.out.alloc HB.out.size (.cells (askC x a) 24))
  rw [← hV3] at ha hg nHB
  have nRA := Lib.hid (RA.out.go ha)
  have nGa := Lib.hid (Bx.go Ga.out ha)
  obtain ⟨gx, hgx⟩ : ∃ g, g = w3.heap.size := ⟨_, rfl⟩
  rw [← hgx] at hg
  have HXGx := Lib.hid hgx
  have Gx := Lib.hid hg
  have HV := Lib.hid hV3
  clear ha hg hV3 hgx
  clear HB RA Ga
  have HB := nHB
  have RA := nRA
  have Ga := nGa
  clear nHB nRA nGa
  have LEGx := Lib.hid (show W.heap.size ≤ gx from by rw [HXGx.out]; exact LB.out)
  have NEGaGx := Lib.hid (show W.heap.size ≠ gx from by have h1 := LTGa.out; rw [HXGx.out]; omega)
  have NEGxGa := Lib.hid (NEGaGx.out.symm)
  clear LB LTGa
  go_upto_region 6 with (first | (refine loadX (.tmp 1) W.heap.size (askC x a) tyAsk rfl OGa.out rfl rfl rfl ?_) | (refine storeX (.tmp 5) (.tmp 23) _ (askC x a) _ tyAsk rfl (askC_one _ _) (heap_alloc_new _ _) rfl rfl rfl rfl rfl ?_; rw [setRowG_fold]))
  rw [← HV.out]
  (try rw [← HXGx.out])
  clear HV HXGx
  clear OGa
  clear x0 x1 x2 x3 x4 f0
  obtain ⟨x0, x1, x2, x3, x4⟩ := HXA.out _ Ga.out
  clear x0 x1 x4
  have RX := RA
  go_wp2_with fail
  clear x2 x3
  go_loopw [4, 7] (fun v4 v7 wr => ∃ (k : Nat) (p : Aq) (y : Wkb) (left : Int), (k : Int) ≤ E + 20 ∧ v4 = .int .i64 left ∧ v7 = .int .i64 ((k : Int) + 1) ∧ Hid (EndI a p left k) ∧ Hid (BxQ wr W.heap.size x a) ∧ Hid (BxQ wr gx y p) ∧ Hid (AqR wr x a) ∧ Hid (AqR wr y p) ∧ Hid (Below W.heap.size W wr)) (fun _ v7 _ => (E + 21 - intOf v7).toNat)
  case atStart => exact ⟨0, a, x, L, by omega, rfl, rfl, by rw [HLE.out]; exact HI0, Ga, Gx, RA, RX, HB⟩
  case round =>
  clear Ga Gx RA RX HB HI0
  obtain ⟨k, p, y, left, hk, rfl, rfl, HI, Ga, Gx, RA, RX, HB⟩ := hrel
  obtain ⟨I, hI⟩ : ∃ i, i = (k : Int) + 1 := ⟨_, rfl⟩
  have hI1 : (k : Int) + 1 = I := hI.symm
  have HII := Lib.hid hI
  have i1 : 1 ≤ I := by omega
  have i2 : I ≤ E + 21 := by omega
  rw [hI1]
  obtain ⟨F, hF⟩ : ∃ f, f = E + 20 := ⟨_, rfl⟩
  have hF1 : E + 20 = F := hF.symm
  have HFF := Lib.hid hF
  have hf0 : 0 ≤ F := by omega
  have hf1 : F ≤ 60 := by omega
  clear hF
  by_cases hlt : I ≤ F
  · obtain ⟨hrp, q, ag, gv, hq, hag, hgv, hm, hn, hnext, hrq, hlf⟩ := STP.out p left k HI.out (by omega)
    have C1 := Lib.hid (fun w hT h => aTick_any y p w hT hrp h)
    rw [hq] at C1
    rw [hI1] at hag hgv hm hn hnext
    have HAG := Lib.hid hag
    have HGV := Lib.hid hgv
    have HM := Lib.hid hm
    have HN := Lib.hid hn
    have HNX := Lib.hid hnext
    have HLF := Lib.hid (show I ≤ E → 0 ≤ left ∧ left ≤ 3 from fun h => hlf (by omega))
    have EM := Lib.hid (fun z w hT h => aMatch_any z q Cc Ss w hT hrq HCS.out.1 HCS.out.2 h)
    have EN := Lib.hid (fun z w => none15_any z q w)
    have HZ := Lib.hid (fun w g z (h : BxQ w g z q) => show w.cell? ⟨g, 4, none⟩ = some (.slice z.1 q.body.length z.2) from h.cell rfl)
    have HZ5 := Lib.hid (fun w g z (h : BxQ w g z q) => show w.cell? ⟨g, 0, none⟩ = some (.int .i64 q.code) ∧ w.cell? ⟨g, 1, none⟩ = some (.int .i64 q.stan) ∧ w.cell? ⟨g, 2, none⟩ = some (.int .i64 q.due) ∧ w.cell? ⟨g, 3, none⟩ = some (.int .i64 q.left) ∧ w.cell? ⟨g, 4, none⟩ = some (.slice z.1 q.body.length z.2) from ⟨h.cell rfl, h.cell rfl, h.cell rfl, h.cell rfl, h.cell rfl⟩)
    have ESB := Lib.hid (fun (h : I < E) z w (h1 : KeyB w z q.body) (h2 : KeyB w x a.body) => (show Calls Try.prog 24 #[.slice z.1 q.body.length z.2, .slice x.1 na x.2] w fun e W' => e = .returned (.bool true) ∧ w = W' from by
      have h3 := sameQ_any z x q.body a.body w h1 h2
      rw [decide_eq_true (hm h).2] at h3
      rw [HNA.out]; exact h3))
    clear hrp hq hag hgv hm hn hnext hrq hlf HI hI hI1 HEND STP
    obtain ⟨J, hJ⟩ : ∃ j, j = I - D := ⟨_, rfl⟩
    have hJ1 : I - D = J := hJ.symm
    have HJ := Lib.hid hJ
    clear hJ
    go_wp2_with (refine loadX (.tmp 5) gx (askC y p) tyAsk rfl Gx.out rfl rfl rfl ?_)
    refine (C1.out _ (HT.out.below HB.out) RX.out).mono ?_
    rintro e w4 ⟨⟨z, rfl, hk⟩, hb⟩
    have nHB := Lib.hid (belG HB.out hb HB.out.size)
    have nRA := Lib.hid (RA.out.go hb)
    have nRX := Lib.hid (RX.out.go hb)
    have nGa := Lib.hid (Bx.go Ga.out hb)
    have nGx := Lib.hid (Bx.go Gx.out hb)
    clear hb
    clear HB RA RX Ga Gx
    have HB := nHB
    have RA := nRA
    have RX := nRX
    have Ga := nGa
    have Gx := nGx
    clear nHB nRA nRX nGa nGx
    have RGd := Lib.hid hk
    clear hk
    have LB := Lib.hid HB.out.size
    have LTGa := Lib.hid (show W.heap.size < w4.heap.size from Bx.lt Ga.out)
    have LTGx := Lib.hid (show gx < w4.heap.size from Bx.lt Gx.out)
    obtain ⟨V4, hV4⟩ : ∃ V, V = w4.alloc (.cells (askC z q) 24) := ⟨_, rfl⟩
    have ha := (Below.refl w4.heap.size w4).alloc (Nat.le_refl _) (.cells (askC z q) 24)
    have hg := heap_alloc_new w4 (.cells (askC z q) 24)
    have nHB := Lib.hid (HB.out.alloc HB.out.size (.cells (askC z q) 24))
    rw [← hV4] at ha hg nHB
    have nRA := Lib.hid (RA.out.go ha)
    have nRX := Lib.hid (RX.out.go ha)
    have nRGd := Lib.hid (RGd.out.go ha)
    have nGa := Lib.hid (Bx.go Ga.out ha)
    have nGx := Lib.hid (Bx.go Gx.out ha)
    obtain ⟨gd, hgd⟩ : ∃ g, g = w4.heap.size := ⟨_, rfl⟩
    rw [← hgd] at hg
    have HXGd := Lib.hid hgd
    have Gd := Lib.hid hg
    have HV := Lib.hid hV4
    clear ha hg hV4 hgd
    clear HB RA RX RGd Ga Gx
    have HB := nHB
    have RA := nRA
    have RX := nRX
    have RGd := nRGd
    have Ga := nGa
    have Gx := nGx
    clear nHB nRA nRX nRGd nGa nGx
    have LEGd := Lib.hid (show W.heap.size ≤ gd from by rw [HXGd.out]; exact LB.out)
    have NEGaGd := Lib.hid (show W.heap.size ≠ gd from by have h1 := LTGa.out; rw [HXGd.out]; omega)
    have NEGdGa := Lib.hid (NEGaGd.out.symm)
    have NEGxGd := Lib.hid (show gx ≠ gd from by have h1 := LTGx.out; rw [HXGd.out]; omega)
    have NEGdGx := Lib.hid (NEGxGd.out.symm)
    clear LB LTGa LTGx
    go_upto_region 11 with (refine storeX (.tmp 8) (.tmp 39) _ (askC z q) _ tyAsk rfl (askC_one _ _) (heap_alloc_new _ _) rfl rfl rfl rfl rfl ?_; rw [setRowG_fold])
    rw [← HV.out]
    (try rw [← HXGd.out])
    clear HV HXGd
    clear C1
    obtain ⟨x0, x1, x2, x3, x4⟩ := HXA.out _ Ga.out
    clear x3 x4
    by_cases hDI : D ≤ I
    · obtain ⟨r, hr⟩ : ∃ r, r = J % 8 := ⟨_, rfl⟩
      have j0 : 0 ≤ J := by have := HJ.out; omega
      have i4 : J.tmod 8 = r := by rw [Int.tmod_eq_emod_of_nonneg j0, hr]
      have i5 : J % 8 = r := hr.symm
      have r0 : 0 ≤ r := by omega
      have r1 : r < 8 := by omega
      by_cases hr0 : r = 0
      · have hrb : (r == 0) = true := by rw [hr0]; rfl
        by_cases hIE : I < E
        · obtain ⟨h0, h3⟩ := HLF.out (by omega)
          obtain rfl : gv = false := by rw [HGV.out]; exact decide_eq_false (by omega)
          obtain rfl : ag = true := by rw [HAG.out]; exact decide_eq_true ⟨by have := HJ.out; omega, by have := HJ.out; omega, hIE⟩
          clear hr hr0
          rw [if_pos rfl] at HNX
          have hIn : ¬ E ≤ I := by omega
          have hIq : (I == E) = false := beq_eq_false_iff_ne.2 (by omega)
          have e5 := (HM.out hIE).1
          rw [e5] at EM
          have E6 := Lib.hid (ESB.out hIE)
          clear e5 ESB HAG HGV HM HN HLF EN
          go_wp2_with (refine loadX (.tmp 8) gd (askC z q) tyAsk rfl Gd.out rfl rfl rfl ?_)
          refine (EM.out z _ (HT.out.below HB.out) RGd.out).mono ?_
          rintro e w5 ⟨rfl, hb⟩
          have nHB := Lib.hid (belG HB.out hb HB.out.size)
          have nRA := Lib.hid (RA.out.go hb)
          have nRX := Lib.hid (RX.out.go hb)
          have nRGd := Lib.hid (RGd.out.go hb)
          have nGa := Lib.hid (Bx.go Ga.out hb)
          have nGx := Lib.hid (Bx.go Gx.out hb)
          have nGd := Lib.hid (Bx.go Gd.out hb)
          clear hb
          clear HB RA RX RGd Ga Gx Gd
          have HB := nHB
          have RA := nRA
          have RX := nRX
          have RGd := nRGd
          have Ga := nGa
          have Gx := nGx
          have Gd := nGd
          clear nHB nRA nRX nRGd nGa nGx nGd
          clear x0 x1 x2
          obtain ⟨x0, x1, x2, x3, x4⟩ := HXA.out _ Ga.out
          clear x0 x1 x2 x3
          have z4 := HZ.out _ _ _ Gd.out
          go_wp2_with fail
          refine (E6.out z _ RGd.out RA.out).mono ?_
          rintro e w6 ⟨rfl, rfl⟩
          clear RX
          go_upto_region 16 with (fail)
          go_upto_region 9 with (first | (refine loadX (.tmp 8) gd (askC z q) tyAsk rfl Gd.out rfl rfl rfl ?_) | (refine storeX (.tmp 5) (.tmp 115) gx (askC z q) _ tyAsk rfl (askC_one _ _) Gx.out rfl rfl rfl rfl rfl ?_))
          obtain ⟨V7, hV7⟩ : ∃ V, V = w5.setRow gx (askC z q) := ⟨_, rfl⟩
          have nHB := Lib.hid (show Below W.heap.size W V7 by rw [hV7]; exact Below.setRowG HB.out LEGx.out _)
          have hq := RA.out.setRow (C' := (askC z q)) Gx.out (no8_ask _ _)
          rw [← hV7] at hq
          have nRA := Lib.hid hq
          clear hq
          have hq := RGd.out.setRow (C' := (askC z q)) Gx.out (no8_ask _ _)
          rw [← hV7] at hq
          have nRGd := Lib.hid hq
          clear hq
          have nGa := Lib.hid (show Bx V7 W.heap.size 24 (askC x a) from by rw [hV7]; exact Bx.setRowOther Ga.out NEGaGx.out _)
          have nGx := Lib.hid (show Bx V7 gx 24 (askC z q) from by rw [hV7]; exact Bx.setRow Gx.out _)
          have nGd := Lib.hid (show Bx V7 gd 24 (askC z q) from by rw [hV7]; exact Bx.setRowOther Gd.out NEGdGx.out _)
          rw [← hV7]
          clear hV7
          clear HB RA RGd Ga Gx Gd
          have HB := nHB
          have RA := nRA
          have RGd := nRGd
          have Ga := nGa
          have Gx := nGx
          have Gd := nGd
          clear nHB nRA nRGd nGa nGx nGd
          go_wp2_with fail
          go_roundw
          case rel => exact ⟨k + 1, q, z, left - 1, by have := HII.out; have := HFF.out; push_cast; omega, by first | rfl | go_num, by (rw [show ((k + 1 : Nat) : Int) = I from by rw [HII.out]; push_cast; rfl]; try go_num), by rw [show ((k + 1 : Nat) : Int) = I from by rw [HII.out]; push_cast; rfl]; exact HNX, Ga, Gx, RA, RGd, HB⟩
          case measure => simp [intOf]; omega
        · by_cases hIq : I = E
          · obtain rfl : gv = true := by rw [HGV.out]; exact decide_eq_true hIq
            obtain rfl : ag = false := by rw [HAG.out]; exact decide_eq_false (fun h => hIE h.2.2)
            clear hr hr0
            rw [if_neg (by decide)] at HNX
            have hIEd : decide (I < E) = false := decide_eq_false hIE
            have hIn : E ≤ I := by omega
            have hIe : (I == E) = true := by rw [hIq]; simp
            have e5 := HN.out hIn
            rw [e5] at EN
            clear e5 ESB HAG HGV HM HN HLF EM hIq
            obtain ⟨z0, z1, z2, z3, z4⟩ := HZ5.out _ _ _ Gd.out
            go_wp2_with fail
            refine (EN.out z _).mono ?_
            rintro e w5 ⟨rfl, hb⟩
            have nHB := Lib.hid (belG HB.out hb HB.out.size)
            have nRA := Lib.hid (RA.out.go hb)
            have nRX := Lib.hid (RX.out.go hb)
            have nRGd := Lib.hid (RGd.out.go hb)
            have nGa := Lib.hid (Bx.go Ga.out hb)
            have nGx := Lib.hid (Bx.go Gx.out hb)
            have nGd := Lib.hid (Bx.go Gd.out hb)
            clear hb
            clear HB RA RX RGd Ga Gx Gd
            have HB := nHB
            have RA := nRA
            have RX := nRX
            have RGd := nRGd
            have Ga := nGa
            have Gx := nGx
            have Gd := nGd
            clear nHB nRA nRX nRGd nGa nGx nGd
            clear x0 x1 x2 z0 z1 z2 z3 z4
            clear RX
            go_upto_region 16 with (fail)
            go_upto_region 9 with (first | (refine loadX (.tmp 8) gd (askC z q) tyAsk rfl Gd.out rfl rfl rfl ?_) | (refine storeX (.tmp 5) (.tmp 115) gx (askC z q) _ tyAsk rfl (askC_one _ _) Gx.out rfl rfl rfl rfl rfl ?_))
            obtain ⟨V6, hV6⟩ : ∃ V, V = w5.setRow gx (askC z q) := ⟨_, rfl⟩
            have nHB := Lib.hid (show Below W.heap.size W V6 by rw [hV6]; exact Below.setRowG HB.out LEGx.out _)
            have hq := RA.out.setRow (C' := (askC z q)) Gx.out (no8_ask _ _)
            rw [← hV6] at hq
            have nRA := Lib.hid hq
            clear hq
            have hq := RGd.out.setRow (C' := (askC z q)) Gx.out (no8_ask _ _)
            rw [← hV6] at hq
            have nRGd := Lib.hid hq
            clear hq
            have nGa := Lib.hid (show Bx V6 W.heap.size 24 (askC x a) from by rw [hV6]; exact Bx.setRowOther Ga.out NEGaGx.out _)
            have nGx := Lib.hid (show Bx V6 gx 24 (askC z q) from by rw [hV6]; exact Bx.setRow Gx.out _)
            have nGd := Lib.hid (show Bx V6 gd 24 (askC z q) from by rw [hV6]; exact Bx.setRowOther Gd.out NEGdGx.out _)
            rw [← hV6]
            clear hV6
            clear HB RA RGd Ga Gx Gd
            have HB := nHB
            have RA := nRA
            have RGd := nRGd
            have Ga := nGa
            have Gx := nGx
            have Gd := nGd
            clear nHB nRA nRGd nGa nGx nGd
            go_wp2_with fail
            go_roundw
            case rel => exact ⟨k + 1, q, z, left, by have := HII.out; have := HFF.out; push_cast; omega, by first | rfl | go_num, by (rw [show ((k + 1 : Nat) : Int) = I from by rw [HII.out]; push_cast; rfl]; try go_num), by rw [show ((k + 1 : Nat) : Int) = I from by rw [HII.out]; push_cast; rfl]; exact HNX, Ga, Gx, RA, RGd, HB⟩
            case measure => simp [intOf]; omega
          · obtain rfl : gv = false := by rw [HGV.out]; exact decide_eq_false hIq
            obtain rfl : ag = false := by rw [HAG.out]; exact decide_eq_false (fun h => hIE h.2.2)
            clear hr hr0
            rw [if_neg (by decide)] at HNX
            have hIEd : decide (I < E) = false := decide_eq_false hIE
            have hIn : E ≤ I := by omega
            have hIe : (I == E) = false := by exact beq_eq_false_iff_ne.2 hIq
            have e5 := HN.out hIn
            rw [e5] at EN
            clear e5 ESB HAG HGV HM HN HLF EM hIq
            obtain ⟨z0, z1, z2, z3, z4⟩ := HZ5.out _ _ _ Gd.out
            go_wp2_with fail
            refine (EN.out z _).mono ?_
            rintro e w5 ⟨rfl, hb⟩
            have nHB := Lib.hid (belG HB.out hb HB.out.size)
            have nRA := Lib.hid (RA.out.go hb)
            have nRX := Lib.hid (RX.out.go hb)
            have nRGd := Lib.hid (RGd.out.go hb)
            have nGa := Lib.hid (Bx.go Ga.out hb)
            have nGx := Lib.hid (Bx.go Gx.out hb)
            have nGd := Lib.hid (Bx.go Gd.out hb)
            clear hb
            clear HB RA RX RGd Ga Gx Gd
            have HB := nHB
            have RA := nRA
            have RX := nRX
            have RGd := nRGd
            have Ga := nGa
            have Gx := nGx
            have Gd := nGd
            clear nHB nRA nRX nRGd nGa nGx nGd
            clear x0 x1 x2 z0 z1 z2 z3 z4
            clear RX
            go_upto_region 16 with (fail)
            go_upto_region 9 with (first | (refine loadX (.tmp 8) gd (askC z q) tyAsk rfl Gd.out rfl rfl rfl ?_) | (refine storeX (.tmp 5) (.tmp 115) gx (askC z q) _ tyAsk rfl (askC_one _ _) Gx.out rfl rfl rfl rfl rfl ?_))
            obtain ⟨V6, hV6⟩ : ∃ V, V = w5.setRow gx (askC z q) := ⟨_, rfl⟩
            have nHB := Lib.hid (show Below W.heap.size W V6 by rw [hV6]; exact Below.setRowG HB.out LEGx.out _)
            have hq := RA.out.setRow (C' := (askC z q)) Gx.out (no8_ask _ _)
            rw [← hV6] at hq
            have nRA := Lib.hid hq
            clear hq
            have hq := RGd.out.setRow (C' := (askC z q)) Gx.out (no8_ask _ _)
            rw [← hV6] at hq
            have nRGd := Lib.hid hq
            clear hq
            have nGa := Lib.hid (show Bx V6 W.heap.size 24 (askC x a) from by rw [hV6]; exact Bx.setRowOther Ga.out NEGaGx.out _)
            have nGx := Lib.hid (show Bx V6 gx 24 (askC z q) from by rw [hV6]; exact Bx.setRow Gx.out _)
            have nGd := Lib.hid (show Bx V6 gd 24 (askC z q) from by rw [hV6]; exact Bx.setRowOther Gd.out NEGdGx.out _)
            rw [← hV6]
            clear hV6
            clear HB RA RGd Ga Gx Gd
            have HB := nHB
            have RA := nRA
            have RGd := nRGd
            have Ga := nGa
            have Gx := nGx
            have Gd := nGd
            clear nHB nRA nRGd nGa nGx nGd
            go_wp2_with fail
            go_roundw
            case rel => exact ⟨k + 1, q, z, left, by have := HII.out; have := HFF.out; push_cast; omega, by first | rfl | go_num, by (rw [show ((k + 1 : Nat) : Int) = I from by rw [HII.out]; push_cast; rfl]; try go_num), by rw [show ((k + 1 : Nat) : Int) = I from by rw [HII.out]; push_cast; rfl]; exact HNX, Ga, Gx, RA, RGd, HB⟩
            case measure => simp [intOf]; omega
      · have hrb : (r == 0) = false := beq_eq_false_iff_ne.2 hr0
        by_cases hIE : I < E
        · obtain ⟨h0, h3⟩ := HLF.out (by omega)
          obtain rfl : gv = false := by rw [HGV.out]; exact decide_eq_false (by omega)
          obtain rfl : ag = false := by rw [HAG.out]; exact decide_eq_false (fun h => by have := HJ.out; omega)
          clear hr
          rw [if_neg (by decide)] at HNX
          have hIn : ¬ E ≤ I := by omega
          have hIq : (I == E) = false := beq_eq_false_iff_ne.2 (by omega)
          have e5 := (HM.out hIE).1
          rw [e5] at EM
          have E6 := Lib.hid (ESB.out hIE)
          clear e5 ESB HAG HGV HM HN HLF EN
          go_wp2_with (refine loadX (.tmp 8) gd (askC z q) tyAsk rfl Gd.out rfl rfl rfl ?_)
          refine (EM.out z _ (HT.out.below HB.out) RGd.out).mono ?_
          rintro e w5 ⟨rfl, hb⟩
          have nHB := Lib.hid (belG HB.out hb HB.out.size)
          have nRA := Lib.hid (RA.out.go hb)
          have nRX := Lib.hid (RX.out.go hb)
          have nRGd := Lib.hid (RGd.out.go hb)
          have nGa := Lib.hid (Bx.go Ga.out hb)
          have nGx := Lib.hid (Bx.go Gx.out hb)
          have nGd := Lib.hid (Bx.go Gd.out hb)
          clear hb
          clear HB RA RX RGd Ga Gx Gd
          have HB := nHB
          have RA := nRA
          have RX := nRX
          have RGd := nRGd
          have Ga := nGa
          have Gx := nGx
          have Gd := nGd
          clear nHB nRA nRX nRGd nGa nGx nGd
          clear x0 x1 x2
          obtain ⟨x0, x1, x2, x3, x4⟩ := HXA.out _ Ga.out
          clear x0 x1 x2 x3
          have z4 := HZ.out _ _ _ Gd.out
          go_wp2_with fail
          refine (E6.out z _ RGd.out RA.out).mono ?_
          rintro e w6 ⟨rfl, rfl⟩
          clear RX
          go_upto_region 16 with (fail)
          go_upto_region 9 with (first | (refine loadX (.tmp 8) gd (askC z q) tyAsk rfl Gd.out rfl rfl rfl ?_) | (refine storeX (.tmp 5) (.tmp 115) gx (askC z q) _ tyAsk rfl (askC_one _ _) Gx.out rfl rfl rfl rfl rfl ?_))
          obtain ⟨V7, hV7⟩ : ∃ V, V = w5.setRow gx (askC z q) := ⟨_, rfl⟩
          have nHB := Lib.hid (show Below W.heap.size W V7 by rw [hV7]; exact Below.setRowG HB.out LEGx.out _)
          have hq := RA.out.setRow (C' := (askC z q)) Gx.out (no8_ask _ _)
          rw [← hV7] at hq
          have nRA := Lib.hid hq
          clear hq
          have hq := RGd.out.setRow (C' := (askC z q)) Gx.out (no8_ask _ _)
          rw [← hV7] at hq
          have nRGd := Lib.hid hq
          clear hq
          have nGa := Lib.hid (show Bx V7 W.heap.size 24 (askC x a) from by rw [hV7]; exact Bx.setRowOther Ga.out NEGaGx.out _)
          have nGx := Lib.hid (show Bx V7 gx 24 (askC z q) from by rw [hV7]; exact Bx.setRow Gx.out _)
          have nGd := Lib.hid (show Bx V7 gd 24 (askC z q) from by rw [hV7]; exact Bx.setRowOther Gd.out NEGdGx.out _)
          rw [← hV7]
          clear hV7
          clear HB RA RGd Ga Gx Gd
          have HB := nHB
          have RA := nRA
          have RGd := nRGd
          have Ga := nGa
          have Gx := nGx
          have Gd := nGd
          clear nHB nRA nRGd nGa nGx nGd
          go_wp2_with fail
          go_roundw
          case rel => exact ⟨k + 1, q, z, left, by have := HII.out; have := HFF.out; push_cast; omega, by first | rfl | go_num, by (rw [show ((k + 1 : Nat) : Int) = I from by rw [HII.out]; push_cast; rfl]; try go_num), by rw [show ((k + 1 : Nat) : Int) = I from by rw [HII.out]; push_cast; rfl]; exact HNX, Ga, Gx, RA, RGd, HB⟩
          case measure => simp [intOf]; omega
        · by_cases hIq : I = E
          · exact absurd (show r = 0 by have := HJ.out; omega) hr0
          · obtain rfl : gv = false := by rw [HGV.out]; exact decide_eq_false hIq
            obtain rfl : ag = false := by rw [HAG.out]; exact decide_eq_false (fun h => hIE h.2.2)
            clear hr
            rw [if_neg (by decide)] at HNX
            have hIEd : decide (I < E) = false := decide_eq_false hIE
            have hIn : E ≤ I := by omega
            have hIe : (I == E) = false := by exact beq_eq_false_iff_ne.2 hIq
            have e5 := HN.out hIn
            rw [e5] at EN
            clear e5 ESB HAG HGV HM HN HLF EM hIq
            obtain ⟨z0, z1, z2, z3, z4⟩ := HZ5.out _ _ _ Gd.out
            go_wp2_with fail
            refine (EN.out z _).mono ?_
            rintro e w5 ⟨rfl, hb⟩
            have nHB := Lib.hid (belG HB.out hb HB.out.size)
            have nRA := Lib.hid (RA.out.go hb)
            have nRX := Lib.hid (RX.out.go hb)
            have nRGd := Lib.hid (RGd.out.go hb)
            have nGa := Lib.hid (Bx.go Ga.out hb)
            have nGx := Lib.hid (Bx.go Gx.out hb)
            have nGd := Lib.hid (Bx.go Gd.out hb)
            clear hb
            clear HB RA RX RGd Ga Gx Gd
            have HB := nHB
            have RA := nRA
            have RX := nRX
            have RGd := nRGd
            have Ga := nGa
            have Gx := nGx
            have Gd := nGd
            clear nHB nRA nRX nRGd nGa nGx nGd
            clear x0 x1 x2 z0 z1 z2 z3 z4
            clear RX
            go_upto_region 16 with (fail)
            go_upto_region 9 with (first | (refine loadX (.tmp 8) gd (askC z q) tyAsk rfl Gd.out rfl rfl rfl ?_) | (refine storeX (.tmp 5) (.tmp 115) gx (askC z q) _ tyAsk rfl (askC_one _ _) Gx.out rfl rfl rfl rfl rfl ?_))
            obtain ⟨V6, hV6⟩ : ∃ V, V = w5.setRow gx (askC z q) := ⟨_, rfl⟩
            have nHB := Lib.hid (show Below W.heap.size W V6 by rw [hV6]; exact Below.setRowG HB.out LEGx.out _)
            have hq := RA.out.setRow (C' := (askC z q)) Gx.out (no8_ask _ _)
            rw [← hV6] at hq
            have nRA := Lib.hid hq
            clear hq
            have hq := RGd.out.setRow (C' := (askC z q)) Gx.out (no8_ask _ _)
            rw [← hV6] at hq
            have nRGd := Lib.hid hq
            clear hq
            have nGa := Lib.hid (show Bx V6 W.heap.size 24 (askC x a) from by rw [hV6]; exact Bx.setRowOther Ga.out NEGaGx.out _)
            have nGx := Lib.hid (show Bx V6 gx 24 (askC z q) from by rw [hV6]; exact Bx.setRow Gx.out _)
            have nGd := Lib.hid (show Bx V6 gd 24 (askC z q) from by rw [hV6]; exact Bx.setRowOther Gd.out NEGdGx.out _)
            rw [← hV6]
            clear hV6
            clear HB RA RGd Ga Gx Gd
            have HB := nHB
            have RA := nRA
            have RGd := nRGd
            have Ga := nGa
            have Gx := nGx
            have Gd := nGd
            clear nHB nRA nRGd nGa nGx nGd
            go_wp2_with fail
            go_roundw
            case rel => exact ⟨k + 1, q, z, left, by have := HII.out; have := HFF.out; push_cast; omega, by first | rfl | go_num, by (rw [show ((k + 1 : Nat) : Int) = I from by rw [HII.out]; push_cast; rfl]; try go_num), by rw [show ((k + 1 : Nat) : Int) = I from by rw [HII.out]; push_cast; rfl]; exact HNX, Ga, Gx, RA, RGd, HB⟩
            case measure => simp [intOf]; omega
    · have hIE : I < E := by omega
      have hDId : decide (D ≤ I) = false := decide_eq_false hDI
      obtain ⟨h0, h3⟩ := HLF.out (by omega)
      obtain rfl : gv = false := by rw [HGV.out]; exact decide_eq_false (by omega)
      obtain rfl : ag = false := by rw [HAG.out]; exact decide_eq_false (fun h => by have := HJ.out; omega)
      
      rw [if_neg (by decide)] at HNX
      have hIn : ¬ E ≤ I := by omega
      have hIq : (I == E) = false := beq_eq_false_iff_ne.2 (by omega)
      have e5 := (HM.out hIE).1
      rw [e5] at EM
      have E6 := Lib.hid (ESB.out hIE)
      clear e5 ESB HAG HGV HM HN HLF EN
      go_wp2_with (refine loadX (.tmp 8) gd (askC z q) tyAsk rfl Gd.out rfl rfl rfl ?_)
      refine (EM.out z _ (HT.out.below HB.out) RGd.out).mono ?_
      rintro e w5 ⟨rfl, hb⟩
      have nHB := Lib.hid (belG HB.out hb HB.out.size)
      have nRA := Lib.hid (RA.out.go hb)
      have nRX := Lib.hid (RX.out.go hb)
      have nRGd := Lib.hid (RGd.out.go hb)
      have nGa := Lib.hid (Bx.go Ga.out hb)
      have nGx := Lib.hid (Bx.go Gx.out hb)
      have nGd := Lib.hid (Bx.go Gd.out hb)
      clear hb
      clear HB RA RX RGd Ga Gx Gd
      have HB := nHB
      have RA := nRA
      have RX := nRX
      have RGd := nRGd
      have Ga := nGa
      have Gx := nGx
      have Gd := nGd
      clear nHB nRA nRX nRGd nGa nGx nGd
      clear x0 x1 x2
      obtain ⟨x0, x1, x2, x3, x4⟩ := HXA.out _ Ga.out
      clear x0 x1 x2 x3
      have z4 := HZ.out _ _ _ Gd.out
      go_wp2_with fail
      refine (E6.out z _ RGd.out RA.out).mono ?_
      rintro e w6 ⟨rfl, rfl⟩
      clear RX
      go_upto_region 16 with (fail)
      go_upto_region 9 with (first | (refine loadX (.tmp 8) gd (askC z q) tyAsk rfl Gd.out rfl rfl rfl ?_) | (refine storeX (.tmp 5) (.tmp 115) gx (askC z q) _ tyAsk rfl (askC_one _ _) Gx.out rfl rfl rfl rfl rfl ?_))
      obtain ⟨V7, hV7⟩ : ∃ V, V = w5.setRow gx (askC z q) := ⟨_, rfl⟩
      have nHB := Lib.hid (show Below W.heap.size W V7 by rw [hV7]; exact Below.setRowG HB.out LEGx.out _)
      have hq := RA.out.setRow (C' := (askC z q)) Gx.out (no8_ask _ _)
      rw [← hV7] at hq
      have nRA := Lib.hid hq
      clear hq
      have hq := RGd.out.setRow (C' := (askC z q)) Gx.out (no8_ask _ _)
      rw [← hV7] at hq
      have nRGd := Lib.hid hq
      clear hq
      have nGa := Lib.hid (show Bx V7 W.heap.size 24 (askC x a) from by rw [hV7]; exact Bx.setRowOther Ga.out NEGaGx.out _)
      have nGx := Lib.hid (show Bx V7 gx 24 (askC z q) from by rw [hV7]; exact Bx.setRow Gx.out _)
      have nGd := Lib.hid (show Bx V7 gd 24 (askC z q) from by rw [hV7]; exact Bx.setRowOther Gd.out NEGdGx.out _)
      rw [← hV7]
      clear hV7
      clear HB RA RGd Ga Gx Gd
      have HB := nHB
      have RA := nRA
      have RGd := nRGd
      have Ga := nGa
      have Gx := nGx
      have Gd := nGd
      clear nHB nRA nRGd nGa nGx nGd
      go_wp2_with fail
      go_roundw
      case rel => exact ⟨k + 1, q, z, left, by have := HII.out; have := HFF.out; push_cast; omega, by first | rfl | go_num, by (rw [show ((k + 1 : Nat) : Int) = I from by rw [HII.out]; push_cast; rfl]; try go_num), by rw [show ((k + 1 : Nat) : Int) = I from by rw [HII.out]; push_cast; rfl]; exact HNX, Ga, Gx, RA, RGd, HB⟩
      case measure => simp [intOf]; omega
  · clear i2
    obtain rfl : left = 0 := HEND.out p left k HI.out (by omega)
    clear STP HEND hI hI1 hk HI HXA CR CN e1 e2 i1 d1 d2 l1 l2 l80 l81
    go_wp2_with fail
    go_ret
    exact ⟨by first | rfl | (simp; done), HB.out⟩
end Go.Proofs.Ytegekmgelnkdbaa
