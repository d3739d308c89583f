
/- Package slot: Right, Same, New, and the slot beside one. -/
import Derived.Test.YtfppcmhhbheaiaaDoorJ21
namespace Go.Proofs.YtfppcmhhbheaiaaDoor
open Go.RowKit

set_option maxRecDepth 100000 in
set_option maxHeartbeats 4000000 in
theorem right_any (x : Wt) (s : Sr) (W : World) (h1 : s.a.length ≤ 50000) (h2 : s.b.length ≤ 50000) (_hx : StR W x s) : Calls Tryd.prog 18 #[.agg (storC x s)] W fun e W' => e = .returned (.bool (decide (RightS s))) ∧ Below W.heap.size W W' := by
  obtain ⟨V, hV, hb, hg⟩ := bx1 W 24 (storC x s)
  have HV := Lib.hid hV
  have HB := Lib.hid hb
  have xa := hg.cell (storC_a x s)
  have xb := hg.cell (storC_b x s)
  have HI : decide (RightS s) = (decide (s.a.length = 16) && decide (s.b.length = 16)) := by
    by_cases h : RightS s
    · rw [decide_eq_true h, decide_eq_true h.1, decide_eq_true h.2]; rfl
    · rw [decide_eq_false h]
      symm
      rw [Bool.and_eq_false_iff, decide_eq_false_iff_not, decide_eq_false_iff_not]
      exact Classical.not_and_iff_not_or_not.1 (show ¬ (s.a.length = 16 ∧ s.b.length = 16) from h)
  obtain ⟨K, hK⟩ : ∃ C, C = storC x s := ⟨_, rfl⟩
  rw [HI, ← hK]
  rw [← hK] at HV
  generalize s.a.length = i at *
  generalize s.b.length = j at *
  clear hV hb hg _hx hK HI
  by_cases hi : i = 16
  · subst hi
    by_cases hj : j = 16
    · subst hj
      go_enter Tryd.func18, Tryd.ntmps18
      go_upto_region 1 with (fail)
      rw [← HV.out]
      go_wp2_with fail
      go_ret
      exact ⟨rfl, HB.out⟩
    · have b0 : ((j : Int) == 16) = false := beq_eq_false_iff_ne.2 (by omega)
      rw [decide_eq_false hj]
      clear hj
      go_enter Tryd.func18, Tryd.ntmps18
      go_upto_region 1 with (fail)
      rw [← HV.out]
      go_wp2_with fail
      go_ret
      exact ⟨rfl, HB.out⟩
  · have b0 : ((i : Int) == 16) = false := beq_eq_false_iff_ne.2 (by omega)
    rw [decide_eq_false hi]
    clear hi
    go_enter Tryd.func18, Tryd.ntmps18
    go_upto_region 1 with (fail)
    rw [← HV.out]
    go_wp2_with fail
    go_ret
    exact ⟨rfl, HB.out⟩
set_option maxRecDepth 100000 in
set_option maxHeartbeats 4000000 in
theorem same_any13 (x y : Wt) (s t : Sr) (W : World) (hx : StR W x s) (hy : StR W y t) : Calls Tryd.prog 19 #[.agg (storC x s), .agg (storC y t)] W fun e W' => e = .returned (.bool (decide (s = t))) ∧ Below W.heap.size W W' := by
  obtain ⟨V, hV, hb, hg, hj, -⟩ := bx2 W 24 24 (storC x s) (storC y t)
  have HV := Lib.hid hV
  have HB := Lib.hid hb
  have xa := hg.cell (storC_a x s)
  have xb := hg.cell (storC_b x s)
  have ya := hj.cell (storC_a y t)
  have yb := hj.cell (storC_b y t)
  have CA := Lib.hid (equalS_any x.a y.a s.a t.a V (hx.1.go hb) (hy.1.go hb))
  have CB := Lib.hid (equalS_any x.b y.b s.b t.b V (hx.2.go hb) (hy.2.go hb))
  have HI : decide (s = t) = (decide (s.a = t.a) && decide (s.b = t.b)) := by
    rw [← Bool.decide_and]
    exact decide_eq_decide.2 ⟨fun h => by subst h; exact ⟨rfl, rfl⟩, fun h => Sr.ext' h.1 h.2⟩
  obtain ⟨K, hK⟩ : ∃ C, C = storC x s := ⟨_, rfl⟩
  obtain ⟨L, hL⟩ : ∃ C, C = storC y t := ⟨_, rfl⟩
  rw [HI, ← hK, ← hL]
  rw [← hK, ← hL] at HV
  generalize decide (s.a = t.a) = P at *
  generalize decide (s.b = t.b) = Q at *
  generalize s.a.length = i at *
  generalize s.b.length = j at *
  generalize t.a.length = k at *
  generalize t.b.length = l at *
  clear hV hb hg hj hx hy hK hL HI
  cases P with
  | false =>
    go_enter Tryd.func19, Tryd.ntmps19
    go_upto_region 1 with (fail)
    rw [← HV.out]
    go_wp2_with fail
    refine CA.out.mono ?_
    rintro e w1 ⟨rfl, hw⟩
    obtain rfl := hw
    go_wp2_with fail
    go_ret
    exact ⟨rfl, HB.out⟩
  | true =>
    go_enter Tryd.func19, Tryd.ntmps19
    go_upto_region 1 with (fail)
    rw [← HV.out]
    go_wp2_with fail
    refine CA.out.mono ?_
    rintro e w1 ⟨rfl, hw⟩
    obtain rfl := hw
    go_wp2_with fail
    refine CB.out.mono ?_
    rintro e w1 ⟨rfl, hw⟩
    obtain rfl := hw
    go_wp2_with fail
    go_ret
    exact ⟨rfl, HB.out⟩
set_option maxRecDepth 100000 in
set_option maxHeartbeats 4000000 in
theorem new_any13 (W : World) (hT : Ks W) : Calls Tryd.prog 16 #[] W fun e W' => AnsSt W' e newS ∧ Below W.heap.size W W' := by
  obtain ⟨V, hV, hb, hg⟩ := bxZS W
  have HB := Lib.hid hb
  have HV := Lib.hid hV
  have J := Lib.hid hg
  have HT := Lib.hid (hT.call hb)
  have CR := Lib.hid (fun w h => record_any 1 w h (by decide))
  rw [show recordS 1 = (recL 1, 0) from by unfold recordS; rw [if_pos ⟨by decide, by decide⟩]] at CR
  have hmk : ∀ w : World, (Instr.makeSlice 22 (.int .i64 16) (.int .i64 16)).run Tryd.prog w = .ok (.slice (some ⟨w.heap.size, 0, none⟩) 16 16) (w.alloc (.cells (madeCells #[.int .u8 0] 16) 5)) := fun w => run_make_row' (P := Tryd.prog) 22 5 (.int .u8 0) 1 Tryd.underlying22 info5 rfl .i64 .i64 16 (by omega) (by omega) w
  clear hV hb hg hT
  go_enter Tryd.func16, Tryd.ntmps16
  go_upto_region 1 with (fail)
  rw [← HV.out]
  clear HV
  go_wp2_with fail
  refine (CR.out _ HT.out).mono ?_
  rintro e w1 ⟨⟨v1, rfl, how⟩, hb⟩
  have HB1 := Lib.hid (belG HB.out hb HB.out.size)
  have J1 := Lib.hid (Bx.go J.out hb)
  obtain ⟨⟨A1, c1⟩, rfl, hk⟩ := how.keyB
  have ha := (Below.refl w1.heap.size w1).alloc (Nat.le_refl _) (.cells (madeCells #[.int .u8 0] 16) 5)
  have K1 := Lib.hid (hk.go ha)
  have KZ := Lib.hid (zero_made w1)
  have HB2 := Lib.hid (belG HB1.out ha HB1.out.size)
  have J2 := Lib.hid (Bx.go J1.out ha)
  clear how hb hk ha HB J HB1 J1
  dsimp only
  rw [recL_len]
  go_wp2_with (refine storeX (.tmp 0) (.tmp 9) W.heap.size (storC ⟨(A1, c1), (some ⟨w1.heap.size, 0, none⟩, 16)⟩ newS) _ tyStore rfl (storC_one _ _) J2.out rfl rfl rfl rfl (store_eq rfl rfl (recL_len 1) rfl) ?_)
  (try dsimp only)
  refine bodyPost_ret (retX1 rfl _ _ W.heap.size (storC ⟨(A1, c1), (some ⟨w1.heap.size, 0, none⟩, 16)⟩ newS) tyStore rfl rfl (Bx.setRow J2.out _)) rfl ?_
  exact ⟨⟨_, rfl, StR.setRow (x := ⟨(A1, c1), (some ⟨w1.heap.size, 0, none⟩, 16)⟩) ⟨K1.out, KZ.out⟩ J2.out (no8_stor _ _)⟩, Below.setRowG HB2.out (Nat.le_refl _) _⟩
set_option maxRecDepth 100000 in
set_option maxHeartbeats 4000000 in
theorem other_any (x : Wt) (s : Sr) (at_ : Int) (W : World) (ha : at_ = 0 ∨ at_ = 1) : Calls Tryd.prog 33 #[.agg (storC x s), .int .i64 at_] W fun e W' => e = .returned (if at_ = 0 then .slice x.b.1 s.b.length x.b.2 else .slice x.a.1 s.a.length x.a.2) ∧ Below W.heap.size W W' := by
  obtain ⟨V, hV, hb, hg⟩ := bx1 W 24 (storC x s)
  have HV := Lib.hid hV
  have HB := Lib.hid hb
  have xa := hg.cell (storC_a x s)
  have xb := hg.cell (storC_b x s)
  obtain ⟨K, hK⟩ : ∃ C, C = storC x s := ⟨_, rfl⟩
  rw [← hK]
  rw [← hK] at HV
  generalize s.a.length = i at *
  generalize s.b.length = j at *
  clear hV hb hg hK
  rcases ha with rfl | rfl
  · rw [if_pos rfl]
    go_enter Tryd.func33, Tryd.ntmps33
    go_upto_region 1 with (fail)
    rw [← HV.out]
    go_wp2_with fail
    go_ret
    exact ⟨rfl, HB.out⟩
  · rw [if_neg (by decide)]
    go_enter Tryd.func33, Tryd.ntmps33
    go_upto_region 1 with (fail)
    rw [← HV.out]
    go_wp2_with fail
    go_ret
    exact ⟨rfl, HB.out⟩
end Go.Proofs.YtfppcmhhbheaiaaDoor
