
/- shown: the document's examples (slot). -/
import Derived.Test.YtfppcmhhbheaiaaDoorJ24
namespace Go.Proofs.YtfppcmhhbheaiaaDoor
open Go.RowKit

set_option maxRecDepth 100000 in
theorem new_right : RightS newS := ⟨recL_len _, by decide⟩
set_option maxRecDepth 100000 in
theorem take_many (s : Sr) {c d : Int} (h : manyS c = manyS d) : takeS s c = takeS s d := by unfold takeS behindS; rw [h]
def a13 : Sr := goneS 1
def c13 : Sr := goneS 2
set_option maxRecDepth 100000 in
theorem a13_right : RightS a13 := (gone_at 1 (by decide)).1
set_option maxRecDepth 100000 in
theorem c13_right : RightS c13 := (gone_at 2 (by decide)).1
set_option maxRecDepth 100000 in
theorem a13_t : takeS newS (-1) = (a13, 1, 0) := gone_take 0 (by decide)
set_option maxRecDepth 100000 in
theorem a13_best : bestS a13 = (2, 1, true) := (gone_at 1 (by decide)).2.1
set_option maxRecDepth 100000 in
theorem a13_a : a13.a = recL 1 := by
  have h := (gone_at 1 (by decide)).2.2.2 (by decide)
  rw [if_neg (by decide)] at h
  exact h
set_option maxRecDepth 100000 in
theorem a13_b : a13.b = recL 2 := by
  have h := (gone_at 1 (by decide)).2.2.1
  rw [if_neg (by decide)] at h
  exact h
set_option maxRecDepth 100000 in
theorem a13_torn : behindS a13 3 = a13 := by
  unfold behindS
  rw [a13_best, if_pos rfl]
  refine Sr.ext' ?_ rfl
  show laidS (recL (2 + 1)) a13.a 3 = a13.a
  rw [a13_a]
  unfold laidS
  have h : (recL (2 + 1)).take 3 = (recL 1).take 3 := by
    unfold recL
    rw [List.take_append_of_le_length (by rw [bg8_len]; decide), List.take_append_of_le_length (by rw [bg8_len]; decide)]
    decide
  rw [h, List.take_append_drop]
set_option maxRecDepth 100000 in
theorem a13_t3 : takeS a13 3 = (a13, 0, 11) := by
  unfold takeS
  rw [a13_best, if_neg (by decide), if_neg (by decide), if_pos (by decide), a13_torn]
set_option maxRecDepth 100000 in
theorem a13_t16 : takeS a13 16 = (c13, 2, 0) := (take_many a13 (by decide)).trans (gone_take 1 (by decide))
set_option maxRecDepth 100000 in
theorem c13_best : bestS c13 = (3, 0, true) := (gone_at 2 (by decide)).2.1
set_option maxRecDepth 100000 in
theorem new_a13 : ¬ newS = a13 := fun h => by
  have h1 : newS.b = recL 2 := by rw [h]; exact a13_b
  have h2 : goodS zero16 = (2, true) := by rw [show zero16 = recL 2 from h1]; exact good_rec ⟨by decide, by decide⟩
  have h3 := zero_bad
  rw [h2] at h3
  cases h3
set_option maxRecDepth 100000 in
theorem sr0_no : ¬ RightS sr0 := fun h => absurd h.1 (by decide)
set_option maxRecDepth 100000 in
theorem ex13_new (W : World) (hT : Ks W) : Calls Tryd.prog 16 #[] W fun e W' => (∃ x, e = .returned (.agg (storC x newS)) ∧ StR W' x newS) ∧ Below W.heap.size W W' := sNew_any W hT
set_option maxRecDepth 100000 in
theorem ex13_t1 (x : Wt) (W : World) (hT : Ks W) (h : StR W x newS) : Calls Tryd.prog 22 #[.agg (storC x newS), .int .i64 (-1)] W fun e W' => AnsSt3 W' e a13 1 0 ∧ Below W.heap.size W W' := by
  have h := sTake_any x newS (-1) W hT new_right (by unfold B64t; decide) h
  rw [a13_t] at h
  exact h
set_option maxRecDepth 100000 in
theorem ex13_t2 (x : Wt) (W : World) (hT : Ks W) (h : StR W x a13) : Calls Tryd.prog 22 #[.agg (storC x a13), .int .i64 3] W fun e W' => AnsSt3 W' e a13 0 11 ∧ Below W.heap.size W W' := by
  have h := sTake_any x a13 3 W hT a13_right (by unfold B64t; decide) h
  rw [a13_t3] at h
  exact h
set_option maxRecDepth 100000 in
theorem ex13_t3 (x : Wt) (W : World) (hT : Ks W) (h : StR W x a13) : Calls Tryd.prog 22 #[.agg (storC x a13), .int .i64 16] W fun e W' => AnsSt3 W' e c13 2 0 ∧ Below W.heap.size W W' := by
  have h := sTake_any x a13 16 W hT a13_right (by unfold B64t; decide) h
  rw [a13_t16] at h
  exact h
set_option maxRecDepth 100000 in
theorem ep1 : EpS 1 := ⟨by decide, by decide⟩
set_option maxRecDepth 100000 in
theorem ex13_r (W : World) (hT : Ks W) : Calls Tryd.prog 9 #[.int .i64 1] W fun e W' => (∃ y : Wkb, e = .returned (.tuple #[.slice y.1 16 y.2, .int .i64 0]) ∧ KeyB W' y (recL 1)) ∧ Below W.heap.size W W' := by
  have h := sRecord_any 1 W hT (by unfold B64t; decide)
  rw [show recordS 1 = (recL 1, 0) from by unfold recordS; rw [if_pos ep1]] at h
  refine h.mono ?_
  rintro e w ⟨⟨v, rfl, how⟩, hb⟩
  obtain ⟨y, rfl, hk⟩ := how.keyB
  exact ⟨⟨y, by rw [recL_len], hk⟩, hb⟩
set_option maxRecDepth 100000 in
theorem ex13_g (y : Wkb) (W : World) (hT : Ks W) (h : KeyB W y (recL 1)) : Calls Tryd.prog 11 #[.slice y.1 16 y.2] W fun e W' => e = .returned (.tuple #[.int .i64 1, .bool true]) ∧ Below W.heap.size W W' := by
  have h := sGood_any y (recL 1) W hT (by rw [recL_len]; decide) h
  rw [recL_len, good_rec ep1] at h
  exact h
set_option maxRecDepth 100000 in
theorem ex13_b (x : Wt) (W : World) (hT : Ks W) (h : StR W x c13) : Calls Tryd.prog 20 #[.agg (storC x c13)] W fun e W' => e = .returned (.tuple #[.int .i64 3, .int .i64 0, .bool true]) ∧ Below W.heap.size W W' := by
  have h := sBest_any x c13 W hT c13_right h
  rw [c13_best] at h
  exact h
set_option maxRecDepth 100000 in
theorem ex13_r1 (x : Wt) (W : World) (h : StR W x newS) : Calls Tryd.prog 18 #[.agg (storC x newS)] W fun e W' => e = .returned (.bool true) ∧ Below W.heap.size W W' := by
  have h := sRight_any x newS W new_right.k h
  rw [decide_eq_true new_right] at h
  exact h
set_option maxRecDepth 100000 in
theorem ex13_r2 (W : World) : Calls Tryd.prog 18 #[.agg #[.slice none 0 0, .slice none 0 0]] W fun e W' => e = .returned (.bool false) ∧ Below W.heap.size W W' := by
  have h := sRight_any wt0 sr0 W ⟨by decide, by decide⟩ (stR0 W)
  rw [decide_eq_false sr0_no] at h
  exact h
set_option maxRecDepth 100000 in
theorem ex13_s1 (x : Wt) (W : World) (h : StR W x newS) : Calls Tryd.prog 19 #[.agg (storC x newS), .agg (storC x newS)] W fun e W' => e = .returned (.bool true) ∧ Below W.heap.size W W' := by
  have h := sSame_any x x newS newS W new_right.k new_right.k h h
  rw [decide_eq_true rfl] at h
  exact h
set_option maxRecDepth 100000 in
theorem ex13_s2 (x y : Wt) (W : World) (h : StR W x newS) (k : StR W y a13) : Calls Tryd.prog 19 #[.agg (storC x newS), .agg (storC y a13)] W fun e W' => e = .returned (.bool false) ∧ Below W.heap.size W W' := by
  have h := sSame_any x y newS a13 W new_right.k a13_right.k h k
  rw [decide_eq_false new_a13] at h
  exact h
set_option maxRecDepth 100000 in
theorem ex13_s (x y : Wkb) (W : World) (hx : KeyB W x (recL 1)) (hy : KeyB W y (recL 1)) : Calls Tryd.prog 14 #[.slice x.1 16 x.2, .slice y.1 16 y.2] W fun e W' => e = .returned (.bool true) ∧ W = W' := by
  have h := sameB_any x y (recL 1) (recL 1) W hx hy
  rw [recL_len, decide_eq_true rfl] at h
  exact h
set_option maxRecDepth 100000 in
theorem new_cells (x : Wt) : (storC x newS)[0]? = some (.slice x.a.1 16 x.a.2) ∧ (storC x newS)[1]? = some (.slice x.b.1 16 x.b.2) := ⟨by rw [storC_a]; show some (Value.slice _ (recL 1).length _) = _; rw [recL_len], rfl⟩
set_option maxRecDepth 100000 in
set_option maxHeartbeats 4000000 in
theorem shown13_any (W : World) (hT : Ks W) :
    Calls Tryd.prog 7 #[] W fun e W' => e = .returned (.bool true) ∧ Below W.heap.size W W' := by
  have HT := Lib.hid hT
  clear hT
  have HB := Lib.hid (Below.refl W.heap.size W)
  have Enew := Lib.hid ex13_new
  have Et1 := Lib.hid ex13_t1
  have Et2 := Lib.hid ex13_t2
  have Et3 := Lib.hid ex13_t3
  have Er := Lib.hid ex13_r
  have Eg := Lib.hid ex13_g
  have Eb := Lib.hid ex13_b
  have Er1 := Lib.hid ex13_r1
  have Er2 := Lib.hid ex13_r2
  have Es1 := Lib.hid ex13_s1
  have Es2 := Lib.hid ex13_s2
  have Es := Lib.hid ex13_s
  have ECL := Lib.hid new_cells
  have ESA := Lib.hid (show newS.a = recL 1 from rfl)
  generalize newS = sn at *
  generalize a13 = sa at *
  generalize c13 = sc at *
  go_enter Tryd.func7, Tryd.ntmps7
  go_wp2_with fail
  refine (Enew.out _ (HT.out.below HB.out HT.out.1)).mono ?_
  rintro e w1 ⟨⟨x1, rfl, hk⟩, hb⟩
  have nHB := Lib.hid (belG HB.out hb HB.out.size)
  clear hb
  clear HB 
  have HB := nHB
  clear nHB 
  have RN := Lib.hid hk
  clear hk
  have LB := Lib.hid HB.out.size
  obtain ⟨V1, hV1⟩ : ∃ V, V = w1.alloc (.cells (storC x1 sn) 24) := ⟨_, rfl⟩
  have ha := (Below.refl w1.heap.size w1).alloc (Nat.le_refl _) (.cells (storC x1 sn) 24)
  have hg := heap_alloc_new w1 (.cells (storC x1 sn) 24)
  have nHB := Lib.hid (HB.out.alloc HB.out.size (.cells (storC x1 sn) 24))
  rw [← hV1] at ha hg nHB
  have nRN := Lib.hid (RN.out.go ha)
  obtain ⟨n, hn⟩ : ∃ g, g = w1.heap.size := ⟨_, rfl⟩
  rw [← hn] at hg
  have HXN := Lib.hid hn
  have N := Lib.hid hg
  have HV := Lib.hid hV1
  clear ha hg hV1 hn
  clear HB RN
  have HB := nHB
  have RN := nRN
  clear nHB nRN
  have LEN := Lib.hid (show W.heap.size ≤ n from by rw [HXN.out]; exact LB.out)
  clear LB
  go_upto_region 2 with (refine storeX (.tmp 1) (.tmp 18) _ (storC x1 sn) _ tyStore rfl (storC_one _ _) (heap_alloc_new _ _) rfl rfl rfl rfl rfl ?_; rw [setRowG_fold])
  rw [← HV.out]
  (try rw [← HXN.out])
  clear HV HXN
  go_wp2_with (refine loadX (.tmp 1) n (storC x1 sn) tyStore rfl N.out rfl rfl rfl ?_)
  refine (Et1.out x1 _ (HT.out.below HB.out HT.out.1) RN.out).mono ?_
  rintro e w2 ⟨⟨x2, rfl, hk⟩, hb⟩
  have nHB := Lib.hid (belG HB.out hb HB.out.size)
  have nRN := Lib.hid (RN.out.go hb)
  have nN := Lib.hid (Bx.go N.out hb)
  clear hb
  clear HB RN N
  have HB := nHB
  have RN := nRN
  have N := nN
  clear nHB nRN nN
  have RA := Lib.hid hk
  clear hk
  have LB := Lib.hid HB.out.size
  have LTN := Lib.hid (show n < w2.heap.size from Bx.lt N.out)
  obtain ⟨V2, hV2⟩ : ∃ V, V = w2.alloc (.cells (storC x2 sa) 24) := ⟨_, rfl⟩
  have ha := (Below.refl w2.heap.size w2).alloc (Nat.le_refl _) (.cells (storC x2 sa) 24)
  have hg := heap_alloc_new w2 (.cells (storC x2 sa) 24)
  have nHB := Lib.hid (HB.out.alloc HB.out.size (.cells (storC x2 sa) 24))
  rw [← hV2] at ha hg nHB
  have nRN := Lib.hid (RN.out.go ha)
  have nRA := Lib.hid (RA.out.go ha)
  have nN := Lib.hid (Bx.go N.out ha)
  obtain ⟨m, hm⟩ : ∃ g, g = w2.heap.size := ⟨_, rfl⟩
  rw [← hm] at hg
  have HXM := Lib.hid hm
  have M := Lib.hid hg
  have HV := Lib.hid hV2
  clear ha hg hV2 hm
  clear HB RN RA N
  have HB := nHB
  have RN := nRN
  have RA := nRA
  have N := nN
  clear nHB nRN nRA nN
  have LEM := Lib.hid (show W.heap.size ≤ m from by rw [HXM.out]; exact LB.out)
  have NENM := Lib.hid (show n ≠ m from by have h1 := LTN.out; rw [HXM.out]; omega)
  have NEMN := Lib.hid (NENM.out.symm)
  clear LB LTN
  go_upto_region 3 with (refine storeX (.tmp 2) (.tmp 22) _ (storC x2 sa) _ tyStore rfl (storC_one _ _) (heap_alloc_new _ _) rfl rfl rfl rfl rfl ?_; rw [setRowG_fold])
  rw [← HV.out]
  (try rw [← HXM.out])
  clear HV HXM
  go_wp2_with (refine loadX (.tmp 2) m (storC x2 sa) tyStore rfl M.out rfl rfl rfl ?_)
  refine (Et2.out x2 _ (HT.out.below HB.out HT.out.1) RA.out).mono ?_
  rintro e w3 ⟨⟨x3, rfl, hk⟩, hb⟩
  have nHB := Lib.hid (belG HB.out hb HB.out.size)
  have nRN := Lib.hid (RN.out.go hb)
  have nRA := Lib.hid (RA.out.go hb)
  have nN := Lib.hid (Bx.go N.out hb)
  have nM := Lib.hid (Bx.go M.out hb)
  clear hb
  clear HB RN RA N M
  have HB := nHB
  have RN := nRN
  have RA := nRA
  have N := nN
  have M := nM
  clear nHB nRN nRA nN nM
  have RQ := Lib.hid hk
  clear hk
  have LB := Lib.hid HB.out.size
  have LTN := Lib.hid (show n < w3.heap.size from Bx.lt N.out)
  have LTM := Lib.hid (show m < w3.heap.size from Bx.lt M.out)
  obtain ⟨V3, hV3⟩ : ∃ V, V = w3.alloc (.cells (storC x3 sa) 24) := ⟨_, rfl⟩
  have ha := (Below.refl w3.heap.size w3).alloc (Nat.le_refl _) (.cells (storC x3 sa) 24)
  have hg := heap_alloc_new w3 (.cells (storC x3 sa) 24)
  have nHB := Lib.hid (HB.out.alloc HB.out.size (.cells (storC x3 sa) 24))
  rw [← hV3] at ha hg nHB
  have nRN := Lib.hid (RN.out.go ha)
  have nRA := Lib.hid (RA.out.go ha)
  have nRQ := Lib.hid (RQ.out.go ha)
  have nN := Lib.hid (Bx.go N.out ha)
  have nM := Lib.hid (Bx.go M.out ha)
  obtain ⟨q, hq⟩ : ∃ g, g = w3.heap.size := ⟨_, rfl⟩
  rw [← hq] at hg
  have HXQ := Lib.hid hq
  have Q := Lib.hid hg
  have HV := Lib.hid hV3
  clear ha hg hV3 hq
  clear HB RN RA RQ N M
  have HB := nHB
  have RN := nRN
  have RA := nRA
  have RQ := nRQ
  have N := nN
  have M := nM
  clear nHB nRN nRA nRQ nN nM
  have LEQ := Lib.hid (show W.heap.size ≤ q from by rw [HXQ.out]; exact LB.out)
  have NENQ := Lib.hid (show n ≠ q from by have h1 := LTN.out; rw [HXQ.out]; omega)
  have NEQN := Lib.hid (NENQ.out.symm)
  have NEMQ := Lib.hid (show m ≠ q from by have h1 := LTM.out; rw [HXQ.out]; omega)
  have NEQM := Lib.hid (NEMQ.out.symm)
  clear LB LTN LTM
  go_upto_region 4 with (refine storeX (.tmp 5) (.tmp 28) _ (storC x3 sa) _ tyStore rfl (storC_one _ _) (heap_alloc_new _ _) rfl rfl rfl rfl rfl ?_; rw [setRowG_fold])
  rw [← HV.out]
  (try rw [← HXQ.out])
  clear HV HXQ
  go_wp2_with (refine loadX (.tmp 5) q (storC x3 sa) tyStore rfl Q.out rfl rfl rfl ?_)
  refine (Et3.out x3 _ (HT.out.below HB.out HT.out.1) RQ.out).mono ?_
  rintro e w4 ⟨⟨x4, rfl, hk⟩, hb⟩
  have nHB := Lib.hid (belG HB.out hb HB.out.size)
  have nRN := Lib.hid (RN.out.go hb)
  have nRA := Lib.hid (RA.out.go hb)
  have nRQ := Lib.hid (RQ.out.go hb)
  have nN := Lib.hid (Bx.go N.out hb)
  have nM := Lib.hid (Bx.go M.out hb)
  have nQ := Lib.hid (Bx.go Q.out hb)
  clear hb
  clear HB RN RA RQ N M Q
  have HB := nHB
  have RN := nRN
  have RA := nRA
  have RQ := nRQ
  have N := nN
  have M := nM
  have Q := nQ
  clear nHB nRN nRA nRQ nN nM nQ
  have RC := Lib.hid hk
  clear hk
  have LB := Lib.hid HB.out.size
  have LTN := Lib.hid (show n < w4.heap.size from Bx.lt N.out)
  have LTM := Lib.hid (show m < w4.heap.size from Bx.lt M.out)
  have LTQ := Lib.hid (show q < w4.heap.size from Bx.lt Q.out)
  obtain ⟨V4, hV4⟩ : ∃ V, V = w4.alloc (.cells (storC x4 sc) 24) := ⟨_, rfl⟩
  have ha := (Below.refl w4.heap.size w4).alloc (Nat.le_refl _) (.cells (storC x4 sc) 24)
  have hg := heap_alloc_new w4 (.cells (storC x4 sc) 24)
  have nHB := Lib.hid (HB.out.alloc HB.out.size (.cells (storC x4 sc) 24))
  rw [← hV4] at ha hg nHB
  have nRN := Lib.hid (RN.out.go ha)
  have nRA := Lib.hid (RA.out.go ha)
  have nRQ := Lib.hid (RQ.out.go ha)
  have nRC := Lib.hid (RC.out.go ha)
  have nN := Lib.hid (Bx.go N.out ha)
  have nM := Lib.hid (Bx.go M.out ha)
  have nQ := Lib.hid (Bx.go Q.out ha)
  obtain ⟨c, hc⟩ : ∃ g, g = w4.heap.size := ⟨_, rfl⟩
  rw [← hc] at hg
  have HXC := Lib.hid hc
  have C := Lib.hid hg
  have HV := Lib.hid hV4
  clear ha hg hV4 hc
  clear HB RN RA RQ RC N M Q
  have HB := nHB
  have RN := nRN
  have RA := nRA
  have RQ := nRQ
  have RC := nRC
  have N := nN
  have M := nM
  have Q := nQ
  clear nHB nRN nRA nRQ nRC nN nM nQ
  have LEC := Lib.hid (show W.heap.size ≤ c from by rw [HXC.out]; exact LB.out)
  have NENC := Lib.hid (show n ≠ c from by have h1 := LTN.out; rw [HXC.out]; omega)
  have NECN := Lib.hid (NENC.out.symm)
  have NEMC := Lib.hid (show m ≠ c from by have h1 := LTM.out; rw [HXC.out]; omega)
  have NECM := Lib.hid (NEMC.out.symm)
  have NEQC := Lib.hid (show q ≠ c from by have h1 := LTQ.out; rw [HXC.out]; omega)
  have NECQ := Lib.hid (NEQC.out.symm)
  clear LB LTN LTM LTQ
  go_upto_region 5 with (refine storeX (.tmp 8) (.tmp 34) _ (storC x4 sc) _ tyStore rfl (storC_one _ _) (heap_alloc_new _ _) rfl rfl rfl rfl rfl ?_; rw [setRowG_fold])
  rw [← HV.out]
  (try rw [← HXC.out])
  clear HV HXC
  go_wp2_with fail
  refine (Er.out _ (HT.out.below HB.out HT.out.1)).mono ?_
  rintro e w5 ⟨⟨y5, rfl, hk⟩, hb⟩
  have nHB := Lib.hid (belG HB.out hb HB.out.size)
  have nRN := Lib.hid (RN.out.go hb)
  have nRA := Lib.hid (RA.out.go hb)
  have nRQ := Lib.hid (RQ.out.go hb)
  have nRC := Lib.hid (RC.out.go hb)
  have nN := Lib.hid (Bx.go N.out hb)
  have nM := Lib.hid (Bx.go M.out hb)
  have nQ := Lib.hid (Bx.go Q.out hb)
  have nC := Lib.hid (Bx.go C.out hb)
  clear hb
  clear HB RN RA RQ RC N M Q C
  have HB := nHB
  have RN := nRN
  have RA := nRA
  have RQ := nRQ
  have RC := nRC
  have N := nN
  have M := nM
  have Q := nQ
  have C := nC
  clear nHB nRN nRA nRQ nRC nN nM nQ nC
  have KX := Lib.hid hk
  clear hk
  go_wp2_with fail
  refine (Eg.out y5 _ (HT.out.below HB.out HT.out.1) KX.out).mono ?_
  rintro e w6 ⟨rfl, hb⟩
  have nHB := Lib.hid (belG HB.out hb HB.out.size)
  have nRN := Lib.hid (RN.out.go hb)
  have nRA := Lib.hid (RA.out.go hb)
  have nRQ := Lib.hid (RQ.out.go hb)
  have nRC := Lib.hid (RC.out.go hb)
  have nKX := Lib.hid (KX.out.go hb)
  have nN := Lib.hid (Bx.go N.out hb)
  have nM := Lib.hid (Bx.go M.out hb)
  have nQ := Lib.hid (Bx.go Q.out hb)
  have nC := Lib.hid (Bx.go C.out hb)
  clear hb
  clear HB RN RA RQ RC KX N M Q C
  have HB := nHB
  have RN := nRN
  have RA := nRA
  have RQ := nRQ
  have RC := nRC
  have KX := nKX
  have N := nN
  have M := nM
  have Q := nQ
  have C := nC
  clear nHB nRN nRA nRQ nRC nKX nN nM nQ nC
  go_wp2_with (refine loadX (.tmp 8) c (storC x4 sc) tyStore rfl C.out rfl rfl rfl ?_)
  refine (Eb.out x4 _ (HT.out.below HB.out HT.out.1) RC.out).mono ?_
  rintro e w7 ⟨rfl, hb⟩
  have nHB := Lib.hid (belG HB.out hb HB.out.size)
  have nRN := Lib.hid (RN.out.go hb)
  have nRA := Lib.hid (RA.out.go hb)
  have nRQ := Lib.hid (RQ.out.go hb)
  have nRC := Lib.hid (RC.out.go hb)
  have nKX := Lib.hid (KX.out.go hb)
  have nN := Lib.hid (Bx.go N.out hb)
  have nM := Lib.hid (Bx.go M.out hb)
  have nQ := Lib.hid (Bx.go Q.out hb)
  have nC := Lib.hid (Bx.go C.out hb)
  clear hb
  clear HB RN RA RQ RC KX N M Q C
  have HB := nHB
  have RN := nRN
  have RA := nRA
  have RQ := nRQ
  have RC := nRC
  have KX := nKX
  have N := nN
  have M := nM
  have Q := nQ
  have C := nC
  clear nHB nRN nRA nRQ nRC nKX nN nM nQ nC
  have n0 := Bx.cell N.out (ECL.out x1).1
  have n1 := Bx.cell N.out (ECL.out x1).2
  go_wp2_with fail
  refine (Es.out x1.a y5 _ (by have h5 := RN.out.1; rw [ESA.out] at h5; exact h5) KX.out).mono ?_
  rintro e w8 ⟨rfl, rfl⟩
  go_wp2_with (refine loadX (.tmp 1) n (storC x1 sn) tyStore rfl N.out rfl rfl rfl ?_)
  refine (Er1.out x1 _ RN.out).mono ?_
  rintro e w9 ⟨rfl, hb⟩
  have nHB := Lib.hid (belG HB.out hb HB.out.size)
  have nRN := Lib.hid (RN.out.go hb)
  have nRA := Lib.hid (RA.out.go hb)
  have nRQ := Lib.hid (RQ.out.go hb)
  have nRC := Lib.hid (RC.out.go hb)
  have nKX := Lib.hid (KX.out.go hb)
  have nN := Lib.hid (Bx.go N.out hb)
  have nM := Lib.hid (Bx.go M.out hb)
  have nQ := Lib.hid (Bx.go Q.out hb)
  have nC := Lib.hid (Bx.go C.out hb)
  clear hb
  clear HB RN RA RQ RC KX N M Q C
  have HB := nHB
  have RN := nRN
  have RA := nRA
  have RQ := nRQ
  have RC := nRC
  have KX := nKX
  have N := nN
  have M := nM
  have Q := nQ
  have C := nC
  clear nHB nRN nRA nRQ nRC nKX nN nM nQ nC
  clear n0 n1
  go_wp2_with fail
  refine (Er2.out _).mono ?_
  rintro e w10 ⟨rfl, hb⟩
  have nHB := Lib.hid (belG HB.out hb HB.out.size)
  have nRN := Lib.hid (RN.out.go hb)
  have nRA := Lib.hid (RA.out.go hb)
  have nRQ := Lib.hid (RQ.out.go hb)
  have nRC := Lib.hid (RC.out.go hb)
  have nKX := Lib.hid (KX.out.go hb)
  have nN := Lib.hid (Bx.go N.out hb)
  have nM := Lib.hid (Bx.go M.out hb)
  have nQ := Lib.hid (Bx.go Q.out hb)
  have nC := Lib.hid (Bx.go C.out hb)
  clear hb
  clear HB RN RA RQ RC KX N M Q C
  have HB := nHB
  have RN := nRN
  have RA := nRA
  have RQ := nRQ
  have RC := nRC
  have KX := nKX
  have N := nN
  have M := nM
  have Q := nQ
  have C := nC
  clear nHB nRN nRA nRQ nRC nKX nN nM nQ nC
  go_wp2_with (refine loadX (.tmp 1) n (storC x1 sn) tyStore rfl N.out rfl rfl rfl ?_)
  refine (Es1.out x1 _ RN.out).mono ?_
  rintro e w11 ⟨rfl, hb⟩
  have nHB := Lib.hid (belG HB.out hb HB.out.size)
  have nRN := Lib.hid (RN.out.go hb)
  have nRA := Lib.hid (RA.out.go hb)
  have nRQ := Lib.hid (RQ.out.go hb)
  have nRC := Lib.hid (RC.out.go hb)
  have nKX := Lib.hid (KX.out.go hb)
  have nN := Lib.hid (Bx.go N.out hb)
  have nM := Lib.hid (Bx.go M.out hb)
  have nQ := Lib.hid (Bx.go Q.out hb)
  have nC := Lib.hid (Bx.go C.out hb)
  clear hb
  clear HB RN RA RQ RC KX N M Q C
  have HB := nHB
  have RN := nRN
  have RA := nRA
  have RQ := nRQ
  have RC := nRC
  have KX := nKX
  have N := nN
  have M := nM
  have Q := nQ
  have C := nC
  clear nHB nRN nRA nRQ nRC nKX nN nM nQ nC
  go_wp2_with (first | (refine loadX (.tmp 1) n (storC x1 sn) tyStore rfl N.out rfl rfl rfl ?_) | (refine loadX (.tmp 2) m (storC x2 sa) tyStore rfl M.out rfl rfl rfl ?_))
  refine (Es2.out x1 x2 _ RN.out RA.out).mono ?_
  rintro e w12 ⟨rfl, hb⟩
  have nHB := Lib.hid (belG HB.out hb HB.out.size)
  have nRN := Lib.hid (RN.out.go hb)
  have nRA := Lib.hid (RA.out.go hb)
  have nRQ := Lib.hid (RQ.out.go hb)
  have nRC := Lib.hid (RC.out.go hb)
  have nKX := Lib.hid (KX.out.go hb)
  have nN := Lib.hid (Bx.go N.out hb)
  have nM := Lib.hid (Bx.go M.out hb)
  have nQ := Lib.hid (Bx.go Q.out hb)
  have nC := Lib.hid (Bx.go C.out hb)
  clear hb
  clear HB RN RA RQ RC KX N M Q C
  have HB := nHB
  have RN := nRN
  have RA := nRA
  have RQ := nRQ
  have RC := nRC
  have KX := nKX
  have N := nN
  have M := nM
  have Q := nQ
  have C := nC
  clear nHB nRN nRA nRQ nRC nKX nN nM nQ nC
  go_wp2_with fail
  go_ret
  exact ⟨by first | rfl | (simp; done), HB.out⟩
end Go.Proofs.YtfppcmhhbheaiaaDoor
