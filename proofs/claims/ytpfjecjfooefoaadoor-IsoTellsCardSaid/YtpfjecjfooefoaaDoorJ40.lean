
/- shown: the document's examples (iso). -/
import Derived.Test.YtpfjecjfooefoaaDoorJ39
import Derived.Test.YtpfjecjfooefoaaDoorJ21
import Derived.Lib.SlBytesConst
namespace Go.Proofs.YtpfjecjfooefoaaDoor
open Go.RowKit

set_option maxRecDepth 100000 in
theorem rd_newI (W : World) (l : List UInt8) (fr : Nat × Nat := (0, 0)) : Rd (W.alloc (.cells (cs l).toArray 5 fr)) (W.alloc (.cells (cs l).toArray 5 fr)).heap.size (some ⟨W.heap.size, 0, none⟩) l :=
  fun _ => ⟨W.heap.size, 0, rfl, by rw [World.size_alloc]; omega, fun j hj => by
    rw [Nat.zero_add, cell_of_row _ _ _ _ _ _ (heap_alloc_new W _)]
    simpa using cs_get l j hj⟩
set_option maxRecDepth 100000 in
theorem right7_0 : RightM 800 [] := ⟨by decide, fun j h => absurd h (by simp)⟩
set_option maxRecDepth 100000 in
theorem set7 : setM [] 70 [51, 48, 49] = [(70, [51, 48, 49])] ∧ setE 70 [51, 48, 49] = 0 := ⟨by kernel_rfl, by kernel_rfl⟩
set_option maxRecDepth 100000 in
theorem right7_1 : RightM 800 [(70, [51, 48, 49])] := by
  have h := setM_right (no := 70) (v := [51, 48, 49]) right7_0
  rw [set7.1] at h
  exact h
set_option maxRecDepth 100000 in
theorem wr7 : isoW 800 [(70, [51, 48, 49])] = [8, 0, 128, 0, 0, 0, 0, 0, 0, 0, 4, 0, 0, 0, 0, 0, 0, 0, 3, 1] ∧ isoE 800 [(70, [51, 48, 49])] = 0 := by
  rw [(isoW_right right7_1).1, (isoW_right right7_1).2]
  exact ⟨by kernel_rfl, rfl⟩
set_option maxRecDepth 100000 in
theorem rd7 : readMg [8, 0, 128, 0, 0, 0, 0, 0, 0, 0, 4, 0, 0, 0, 0, 0, 0, 0, 3, 1] = (800, [(70, [51, 48, 49])], 0) := by
  have h := iso_back right7_1
  rw [← (isoW_right right7_1).1, wr7.1] at h
  exact h
set_option maxRecDepth 100000 in
theorem ex7_s (A : Option Addr) (W : World) (hr : Rd W W.heap.size A [51, 48, 49]) (hT : Tb W) : Calls Tryd.prog 28 #[.agg #[.int .i64 800, .slice none 0 0], .int .i64 70, .slice A 3 3] W fun e W' => (∃ A1 c1, e = .returned (.tuple #[.agg #[.int .i64 800, .slice A1 1 c1], .int .i64 0]) ∧ 1 ≤ c1 ∧ c1 ≤ 9223372036854775807 ∧ RdF W' W'.heap.size A1 [(70, [51, 48, 49])]) ∧ Below W.heap.size W W' := by
  have h := iSet_any 800 none [] 0 70 A [51, 48, 49] 3 W right7_0 (Nat.le_refl _) (by decide) RdF.nil (by unfold I64b; decide) (by decide) (by decide) (by decide) hr hT
  rw [set7.1, set7.2] at h
  exact h
set_option maxRecDepth 100000 in
theorem ex7_w (A : Option Addr) (c : Nat) (W : World) (hc : 1 ≤ c) (hcm : c ≤ 9223372036854775807) (hr : RdF W W.heap.size A [(70, [51, 48, 49])]) (hT : Tb W) : Calls Tryd.prog 13 #[.agg #[.int .i64 800, .slice A 1 c]] W fun e W' => Ans W' e [8, 0, 128, 0, 0, 0, 0, 0, 0, 0, 4, 0, 0, 0, 0, 0, 0, 0, 3, 1] 20 (.int .i64 0) ∧ Below W.heap.size W W' := by
  have h := iWrite_any 800 A [(70, [51, 48, 49])] c W (by unfold I64b; decide) right7_1.ok hc hcm hr hT
  rw [wr7.1, wr7.2] at h
  exact h
set_option maxRecDepth 100000 in
theorem ex7_r (A : Option Addr) (c : Nat) (W : World) (hc : 20 ≤ c) (hcm : c ≤ 9223372036854775807) (hr : Rd W W.heap.size A [8, 0, 128, 0, 0, 0, 0, 0, 0, 0, 4, 0, 0, 0, 0, 0, 0, 0, 3, 1]) (hT : Tb W) : Calls Tryd.prog 26 #[.slice A 20 c] W fun e W' => (∃ A1 c1, e = .returned (.tuple #[.agg #[.int .i64 800, .slice A1 1 c1], .int .i64 0]) ∧ 1 ≤ c1 ∧ c1 ≤ 9223372036854775807 ∧ RdF W' W'.heap.size A1 [(70, [51, 48, 49])]) ∧ Below W.heap.size W W' := by
  have h := iRead_any A [8, 0, 128, 0, 0, 0, 0, 0, 0, 0, 4, 0, 0, 0, 0, 0, 0, 0, 3, 1] c W (by decide) hc hcm hr hT
  rw [rd7] at h
  exact h
set_option maxRecDepth 100000 in
theorem ex7_g (A : Option Addr) (c : Nat) (W : World) (hc : 1 ≤ c) (hcm : c ≤ 9223372036854775807) (hr : RdF W W.heap.size A [(70, [51, 48, 49])]) (hT : Tb W) : Calls Tryd.prog 30 #[.agg #[.int .i64 800, .slice A 1 c], .int .i64 70] W fun e W' => Ans W' e [51, 48, 49] 3 (.bool true) ∧ Below W.heap.size W W' := by
  have h := iGet_any 800 A [(70, [51, 48, 49])] c 70 W right7_1 hc hcm hr (by unfold I64b; decide) hT
  exact h
set_option maxRecDepth 100000 in
theorem ex7_p (W : World) (hT : Tb W) : Calls Tryd.prog 15 #[.int .i64 800] W fun e W' => e = .returned (.tuple #[.int .i64 810, .bool true]) ∧ Below W.heap.size W W' := by
  have h := iReply_any 800 (by unfold I64b; decide) W hT
  rw [show replyI 800 = 810 by decide, show replyY 800 = true by decide] at h
  exact h
set_option maxRecDepth 100000 in
theorem ex7_d (A : Option Addr) (c : Nat) (W : World) (hc : 1 ≤ c) (hcm : c ≤ 9223372036854775807) (hr : RdF W W.heap.size A [(70, [51, 48, 49])]) (hT : Tb W) : Calls Tryd.prog 32 #[.agg #[.int .i64 800, .slice A 1 c], .int .i64 70] W fun e W' => (∃ A1 c1, e = .returned (.agg #[.int .i64 800, .slice A1 0 c1]) ∧ 0 ≤ c1 ∧ c1 ≤ 9223372036854775807 ∧ RdF W' W'.heap.size A1 []) ∧ Below W.heap.size W W' := by
  have h := iDrop_any 800 A [(70, [51, 48, 49])] c 70 W right7_1 hc hcm hr (by unfold I64b; decide) hT
  exact h
set_option maxRecDepth 100000 in
theorem ex7_h (A : Option Addr) (c : Nat) (W : World) (hr : Rd W W.heap.size A [8, 0, 128, 0, 0, 0, 0, 0, 0, 0, 4, 0, 0, 0, 0, 0, 0, 0, 3, 1]) : Calls Tryd.prog 34 #[.slice A 20 c] W fun e W' => e = .returned (.string ⟨#[48, 56, 48, 48, 56, 48, 48, 48, 48, 48, 48, 48, 48, 48, 48, 48, 48, 48, 48, 48, 48, 52, 48, 48, 48, 48, 48, 48, 48, 48, 48, 48, 48, 48, 48, 48, 48, 51, 48, 49]⟩) ∧ Below W.heap.size W W' := by
  have h := (refHex_any A [8, 0, 128, 0, 0, 0, 0, 0, 0, 0, 4, 0, 0, 0, 0, 0, 0, 0, 3, 1] c W (by decide) hr).mono fun e W' h => (show e = .returned (.string ⟨#[48, 56, 48, 48, 56, 48, 48, 48, 48, 48, 48, 48, 48, 48, 48, 48, 48, 48, 48, 48, 48, 52, 48, 48, 48, 48, 48, 48, 48, 48, 48, 48, 48, 48, 48, 48, 48, 51, 48, 49]⟩) ∧ Below W.heap.size W W' from ⟨h.1.trans (by rfl), h.2⟩)
  exact h
set_option maxRecDepth 100000 in
theorem ex7_m (A A2 : Option Addr) (c c2 : Nat) (W : World) (hc : 1 ≤ c) (hcm : c ≤ 9223372036854775807) (hr : RdF W W.heap.size A [(70, [51, 48, 49])]) (hc2 : 1 ≤ c2) (hcm2 : c2 ≤ 9223372036854775807) (hr2 : RdF W W.heap.size A2 [(70, [51, 48, 49])]) (hT : Tb W) : Calls Tryd.prog 20 #[.agg #[.int .i64 800, .slice A 1 c], .agg #[.int .i64 800, .slice A2 1 c2]] W fun e W' => e = .returned (.bool true) ∧ Below W.heap.size W W' := by
  have h := iSame_any 800 800 A A2 [(70, [51, 48, 49])] [(70, [51, 48, 49])] c c2 W (by unfold I64b; decide) (by unfold I64b; decide) right7_1.ok right7_1.ok hc hcm hr hc2 hcm2 hr2 hT
  simp only [and_self, decide_true] at h
  exact h
set_option maxRecDepth 100000 in
theorem ex7_n (A A2 : Option Addr) (c c2 : Nat) (W : World) (hc : 1 ≤ c) (hcm : c ≤ 9223372036854775807) (hr : RdF W W.heap.size A [(70, [51, 48, 49])]) (hcm2 : c2 ≤ 9223372036854775807) (hT : Tb W) : Calls Tryd.prog 20 #[.agg #[.int .i64 800, .slice A 1 c], .agg #[.int .i64 800, .slice A2 0 c2]] W fun e W' => e = .returned (.bool false) ∧ Below W.heap.size W W' := by
  have h := iSame_any 800 800 A A2 [(70, [51, 48, 49])] [] c c2 W (by unfold I64b; decide) (by unfold I64b; decide) right7_1.ok okM_nil hc hcm hr (Nat.zero_le _) hcm2 RdF.nil hT
  rw [decide_eq_false (by simp)] at h
  exact h
set_option maxRecDepth 100000 in
theorem ex7_c (W : World) (hT : Tb W) : Calls Tryd.prog 24 #[.int .i64 810] W fun e W' => e = .returned (.int .i64 8) ∧ Below W.heap.size W W' := by
  have h := iClass_any 810 (by unfold I64b; decide) W hT
  rw [show classF 810 = 8 by decide] at h
  exact h
set_option maxRecDepth 100000 in
theorem ex7_t (W : World) (hT : Tb W) : Calls Tryd.prog 22 #[.int .i64 800] W fun e W' => e = .returned (.bool true) ∧ Below W.heap.size W W' := by
  have h := iType_any 800 (by unfold I64b; decide) W hT
  rw [show typeF 800 = true by decide] at h
  exact h
set_option maxRecDepth 100000 in
theorem ex7_u (W : World) (hT : Tb W) : Calls Tryd.prog 22 #[.int .i64 950] W fun e W' => e = .returned (.bool false) ∧ Below W.heap.size W W' := by
  have h := iType_any 950 (by unfold I64b; decide) W hT
  rw [show typeF 950 = false by decide] at h
  exact h
set_option maxRecDepth 100000 in
theorem ex7_q (A : Option Addr) (c : Nat) (W : World) (hc : 1 ≤ c) (hcm : c ≤ 9223372036854775807) (hr : RdF W W.heap.size A [(70, [51, 48, 49])]) (hT : Tb W) : Calls Tryd.prog 18 #[.agg #[.int .i64 800, .slice A 1 c]] W fun e W' => e = .returned (.bool true) ∧ Below W.heap.size W W' := by
  have h := iRight_any 800 A [(70, [51, 48, 49])] c W (by unfold I64b; decide) right7_1.ok hc hcm hr hT
  rw [decide_eq_true right7_1] at h
  exact h

set_option maxRecDepth 100000 in
set_option maxHeartbeats 4000000 in
theorem shown7_any (W : World) (hT : Tb W) : Calls Tryd.prog 11 #[] W fun e W' => e = .returned (.bool true) ∧ Below W.heap.size W W' := by
  have HT := Lib.hid hT
  have HB := Lib.hid (Below.refl W.heap.size W)
  go_enter Tryd.func11, Tryd.ntmps11
  have hconv := Lib.run_convert_bytes_const (P := Tryd.prog) W 27 5 #[.int .u8 51, .int .u8 48, .int .u8 49] 3 3 Tryd.underlying27 Tryd.underlying5
  go_wp2_with fail
  clear hconv
  have hn := HB.out.alloc HB.out.size (.cells #[.int .u8 51, .int .u8 48, .int .u8 49] 5 (3, 4))
  have ha := (Below.refl W.heap.size W).alloc (Nat.le_refl _) (.cells #[.int .u8 51, .int .u8 48, .int .u8 49] 5 (3, 4))
  refine (ex7_s _ (W.alloc (.cells #[.int .u8 51, .int .u8 48, .int .u8 49] 5 (3, 4))) (by exact rd_newI W [51, 48, 49] (3, 4)) (HT.out.below (HB.out.alloc HB.out.size _))).mono ?_
  rintro e w1 ⟨⟨A1, c1, rfl, p1, p2, h1⟩, hb⟩
  have nHB := Lib.hid (belG hn hb hn.size)
  have hb2 := belG ha hb ha.size
  clear hn ha
  clear hb hb2
  clear HB 
  have HB := nHB
  clear nHB 
  have R1 := Lib.hid h1
  clear h1
  obtain ⟨V1, hV1⟩ : ∃ V, V = w1.alloc (.cells #[.int .i64 800, .slice A1 1 c1] 24) := ⟨_, rfl⟩
  have ha := (Below.refl w1.heap.size w1).alloc (Nat.le_refl _) (.cells #[.int .i64 800, .slice A1 1 c1] 24)
  have hg := heap_alloc_new w1 (.cells #[.int .i64 800, .slice A1 1 c1] 24)
  have nHB := Lib.hid (HB.out.alloc HB.out.size (.cells #[.int .i64 800, .slice A1 1 c1] 24))
  rw [← hV1] at ha hg nHB
  have nR1 := Lib.hid ((R1.out.below ha (Nat.le_refl _)).more ha.size)
  obtain ⟨g1, hg1⟩ : ∃ g, g = w1.heap.size := ⟨_, rfl⟩
  rw [← hg1] at hg
  have HXG1 := Lib.hid hg1
  have G1 := Lib.hid hg
  have HV := Lib.hid hV1
  clear ha hg hV1 hg1
  clear HB R1
  have HB := nHB
  have R1 := nR1
  clear nHB nR1
  obtain ⟨g1x, g1y⟩ := cG2 G1.out
  rw [HV.out] at g1x g1y
  rw [HXG1.out] at g1x g1y
  go_wp2_with fail
  clear g1x g1y
  rw [← HV.out]
  (try rw [← HXG1.out])
  clear HV HXG1
  refine (ex7_w A1 c1 _ p1 p2 R1.out (HT.out.below HB.out)).mono ?_
  rintro e w2 ⟨⟨A2, c2, rfl, q1, q2, h2⟩, hb⟩
  have nHB := Lib.hid (belG HB.out hb HB.out.size)
  have nR1 := Lib.hid ((R1.out.below hb (Nat.le_refl _)).more hb.size)
  have nG1 := Lib.hid (oldG G1.out hb (Nat.le_refl _))
  clear hb
  clear HB R1 G1
  have HB := nHB
  have R1 := nR1
  have G1 := nG1
  clear nHB nR1 nG1
  have R2 := Lib.hid h2
  clear h2
  go_wp2_with fail
  refine (ex7_r A2 c2 _ q1 q2 R2.out (HT.out.below HB.out)).mono ?_
  rintro e w3 ⟨⟨A3, c3, rfl, p3, p4, h3⟩, hb⟩
  have nHB := Lib.hid (belG HB.out hb HB.out.size)
  have nR1 := Lib.hid ((R1.out.below hb (Nat.le_refl _)).more hb.size)
  have nR2 := Lib.hid ((R2.out.below hb (Nat.le_refl _)).more hb.size)
  have nG1 := Lib.hid (oldG G1.out hb (Nat.le_refl _))
  clear hb
  clear HB R1 R2 G1
  have HB := nHB
  have R1 := nR1
  have R2 := nR2
  have G1 := nG1
  clear nHB nR1 nR2 nG1
  have R3 := Lib.hid h3
  clear h3
  obtain ⟨V3, hV3⟩ : ∃ V, V = w3.alloc (.cells #[.int .i64 800, .slice A3 1 c3] 24) := ⟨_, rfl⟩
  have ha := (Below.refl w3.heap.size w3).alloc (Nat.le_refl _) (.cells #[.int .i64 800, .slice A3 1 c3] 24)
  have hg := heap_alloc_new w3 (.cells #[.int .i64 800, .slice A3 1 c3] 24)
  have nHB := Lib.hid (HB.out.alloc HB.out.size (.cells #[.int .i64 800, .slice A3 1 c3] 24))
  rw [← hV3] at ha hg nHB
  have nR1 := Lib.hid ((R1.out.below ha (Nat.le_refl _)).more ha.size)
  have nR2 := Lib.hid ((R2.out.below ha (Nat.le_refl _)).more ha.size)
  have nR3 := Lib.hid ((R3.out.below ha (Nat.le_refl _)).more ha.size)
  have nG1 := Lib.hid (oldG G1.out ha (Nat.le_refl _))
  obtain ⟨g2, hg2⟩ : ∃ g, g = w3.heap.size := ⟨_, rfl⟩
  rw [← hg2] at hg
  have HXG2 := Lib.hid hg2
  have G2 := Lib.hid hg
  have HV := Lib.hid hV3
  clear ha hg hV3 hg2
  clear HB R1 R2 R3 G1
  have HB := nHB
  have R1 := nR1
  have R2 := nR2
  have R3 := nR3
  have G1 := nG1
  clear nHB nR1 nR2 nR3 nG1
  obtain ⟨g2x, g2y⟩ := cG2 G2.out
  rw [HV.out] at g2x g2y
  rw [HXG2.out] at g2x g2y
  go_wp2_with fail
  clear g2x g2y
  rw [← HV.out]
  (try rw [← HXG2.out])
  clear HV HXG2
  refine (ex7_g A3 c3 _ p3 p4 R3.out (HT.out.below HB.out)).mono ?_
  rintro e w4 ⟨⟨A4, c4, rfl, -, -, h4⟩, hb⟩
  have nHB := Lib.hid (belG HB.out hb HB.out.size)
  have nR1 := Lib.hid ((R1.out.below hb (Nat.le_refl _)).more hb.size)
  have nR2 := Lib.hid ((R2.out.below hb (Nat.le_refl _)).more hb.size)
  have nR3 := Lib.hid ((R3.out.below hb (Nat.le_refl _)).more hb.size)
  have nG1 := Lib.hid (oldG G1.out hb (Nat.le_refl _))
  have nG2 := Lib.hid (oldG G2.out hb (Nat.le_refl _))
  clear hb
  clear HB R1 R2 R3 G1 G2
  have HB := nHB
  have R1 := nR1
  have R2 := nR2
  have R3 := nR3
  have G1 := nG1
  have G2 := nG2
  clear nHB nR1 nR2 nR3 nG1 nG2
  have R4 := Lib.hid h4
  clear h4
  go_wp2_with fail
  refine (ex7_p _ (HT.out.below HB.out)).mono ?_
  rintro e w5 ⟨rfl, hb⟩
  have nHB := Lib.hid (belG HB.out hb HB.out.size)
  have nR1 := Lib.hid ((R1.out.below hb (Nat.le_refl _)).more hb.size)
  have nR2 := Lib.hid ((R2.out.below hb (Nat.le_refl _)).more hb.size)
  have nR3 := Lib.hid ((R3.out.below hb (Nat.le_refl _)).more hb.size)
  have nR4 := Lib.hid ((R4.out.below hb (Nat.le_refl _)).more hb.size)
  have nG1 := Lib.hid (oldG G1.out hb (Nat.le_refl _))
  have nG2 := Lib.hid (oldG G2.out hb (Nat.le_refl _))
  clear hb
  clear HB R1 R2 R3 R4 G1 G2
  have HB := nHB
  have R1 := nR1
  have R2 := nR2
  have R3 := nR3
  have R4 := nR4
  have G1 := nG1
  have G2 := nG2
  clear nHB nR1 nR2 nR3 nR4 nG1 nG2
  obtain ⟨g1x, g1y⟩ := cG2 G1.out
  go_wp2_with fail
  clear g1x g1y
  refine (ex7_d A1 c1 _ p1 p2 R1.out (HT.out.below HB.out)).mono ?_
  rintro e w6 ⟨⟨A5, c5, rfl, -, p6, -⟩, hb⟩
  have nHB := Lib.hid (belG HB.out hb HB.out.size)
  have nR1 := Lib.hid ((R1.out.below hb (Nat.le_refl _)).more hb.size)
  have nR2 := Lib.hid ((R2.out.below hb (Nat.le_refl _)).more hb.size)
  have nR3 := Lib.hid ((R3.out.below hb (Nat.le_refl _)).more hb.size)
  have nR4 := Lib.hid ((R4.out.below hb (Nat.le_refl _)).more hb.size)
  have nG1 := Lib.hid (oldG G1.out hb (Nat.le_refl _))
  have nG2 := Lib.hid (oldG G2.out hb (Nat.le_refl _))
  clear hb
  clear HB R1 R2 R3 R4 G1 G2
  have HB := nHB
  have R1 := nR1
  have R2 := nR2
  have R3 := nR3
  have R4 := nR4
  have G1 := nG1
  have G2 := nG2
  clear nHB nR1 nR2 nR3 nR4 nG1 nG2
  obtain ⟨V6, hV6⟩ : ∃ V, V = w6.alloc (.cells #[.int .i64 800, .slice A5 0 c5] 24) := ⟨_, rfl⟩
  have ha := (Below.refl w6.heap.size w6).alloc (Nat.le_refl _) (.cells #[.int .i64 800, .slice A5 0 c5] 24)
  have hg := heap_alloc_new w6 (.cells #[.int .i64 800, .slice A5 0 c5] 24)
  have nHB := Lib.hid (HB.out.alloc HB.out.size (.cells #[.int .i64 800, .slice A5 0 c5] 24))
  rw [← hV6] at ha hg nHB
  have nR1 := Lib.hid ((R1.out.below ha (Nat.le_refl _)).more ha.size)
  have nR2 := Lib.hid ((R2.out.below ha (Nat.le_refl _)).more ha.size)
  have nR3 := Lib.hid ((R3.out.below ha (Nat.le_refl _)).more ha.size)
  have nR4 := Lib.hid ((R4.out.below ha (Nat.le_refl _)).more ha.size)
  have nG1 := Lib.hid (oldG G1.out ha (Nat.le_refl _))
  have nG2 := Lib.hid (oldG G2.out ha (Nat.le_refl _))
  obtain ⟨g3, hg3⟩ : ∃ g, g = w6.heap.size := ⟨_, rfl⟩
  rw [← hg3] at hg
  have HXG3 := Lib.hid hg3
  have G3 := Lib.hid hg
  have HV := Lib.hid hV6
  clear ha hg hV6 hg3
  clear HB R1 R2 R3 R4 G1 G2
  have HB := nHB
  have R1 := nR1
  have R2 := nR2
  have R3 := nR3
  have R4 := nR4
  have G1 := nG1
  have G2 := nG2
  clear nHB nR1 nR2 nR3 nR4 nG1 nG2
  go_wp2_with fail
  rw [← HV.out]
  (try rw [← HXG3.out])
  clear HV HXG3
  refine (ex7_h A2 c2 _ R2.out).mono ?_
  rintro e w7 ⟨rfl, hb⟩
  have nHB := Lib.hid (belG HB.out hb HB.out.size)
  have nR1 := Lib.hid ((R1.out.below hb (Nat.le_refl _)).more hb.size)
  have nR2 := Lib.hid ((R2.out.below hb (Nat.le_refl _)).more hb.size)
  have nR3 := Lib.hid ((R3.out.below hb (Nat.le_refl _)).more hb.size)
  have nR4 := Lib.hid ((R4.out.below hb (Nat.le_refl _)).more hb.size)
  have nG1 := Lib.hid (oldG G1.out hb (Nat.le_refl _))
  have nG2 := Lib.hid (oldG G2.out hb (Nat.le_refl _))
  have nG3 := Lib.hid (oldG G3.out hb (Nat.le_refl _))
  clear hb
  clear HB R1 R2 R3 R4 G1 G2 G3
  have HB := nHB
  have R1 := nR1
  have R2 := nR2
  have R3 := nR3
  have R4 := nR4
  have G1 := nG1
  have G2 := nG2
  have G3 := nG3
  clear nHB nR1 nR2 nR3 nR4 nG1 nG2 nG3
  obtain ⟨g1x, g1y⟩ := cG2 G1.out
  obtain ⟨g2x, g2y⟩ := cG2 G2.out
  go_wp2_with fail
  clear g1x g1y g2x g2y
  refine (ex7_m A1 A3 c1 c3 _ p1 p2 R1.out p3 p4 R3.out (HT.out.below HB.out)).mono ?_
  rintro e w8 ⟨rfl, hb⟩
  have nHB := Lib.hid (belG HB.out hb HB.out.size)
  have nR1 := Lib.hid ((R1.out.below hb (Nat.le_refl _)).more hb.size)
  have nR2 := Lib.hid ((R2.out.below hb (Nat.le_refl _)).more hb.size)
  have nR3 := Lib.hid ((R3.out.below hb (Nat.le_refl _)).more hb.size)
  have nR4 := Lib.hid ((R4.out.below hb (Nat.le_refl _)).more hb.size)
  have nG1 := Lib.hid (oldG G1.out hb (Nat.le_refl _))
  have nG2 := Lib.hid (oldG G2.out hb (Nat.le_refl _))
  have nG3 := Lib.hid (oldG G3.out hb (Nat.le_refl _))
  clear hb
  clear HB R1 R2 R3 R4 G1 G2 G3
  have HB := nHB
  have R1 := nR1
  have R2 := nR2
  have R3 := nR3
  have R4 := nR4
  have G1 := nG1
  have G2 := nG2
  have G3 := nG3
  clear nHB nR1 nR2 nR3 nR4 nG1 nG2 nG3
  have hst := run_str (P := Tryd.prog) R4.out c4 _ _ _ Tryd.underlying27 Tryd.underlying5 Tryd.underlying9
  simp only [List.length_cons, List.length_nil, Nat.zero_add, Nat.reduceAdd] at hst
  go_wp2_with fail
  clear hst
  refine (ex7_c _ (HT.out.below HB.out)).mono ?_
  rintro e w9 ⟨rfl, hb⟩
  have nHB := Lib.hid (belG HB.out hb HB.out.size)
  have nR1 := Lib.hid ((R1.out.below hb (Nat.le_refl _)).more hb.size)
  have nR2 := Lib.hid ((R2.out.below hb (Nat.le_refl _)).more hb.size)
  have nR3 := Lib.hid ((R3.out.below hb (Nat.le_refl _)).more hb.size)
  have nR4 := Lib.hid ((R4.out.below hb (Nat.le_refl _)).more hb.size)
  have nG1 := Lib.hid (oldG G1.out hb (Nat.le_refl _))
  have nG2 := Lib.hid (oldG G2.out hb (Nat.le_refl _))
  have nG3 := Lib.hid (oldG G3.out hb (Nat.le_refl _))
  clear hb
  clear HB R1 R2 R3 R4 G1 G2 G3
  have HB := nHB
  have R1 := nR1
  have R2 := nR2
  have R3 := nR3
  have R4 := nR4
  have G1 := nG1
  have G2 := nG2
  have G3 := nG3
  clear nHB nR1 nR2 nR3 nR4 nG1 nG2 nG3
  go_wp2_with fail
  refine (ex7_t _ (HT.out.below HB.out)).mono ?_
  rintro e w10 ⟨rfl, hb⟩
  have nHB := Lib.hid (belG HB.out hb HB.out.size)
  have nR1 := Lib.hid ((R1.out.below hb (Nat.le_refl _)).more hb.size)
  have nR2 := Lib.hid ((R2.out.below hb (Nat.le_refl _)).more hb.size)
  have nR3 := Lib.hid ((R3.out.below hb (Nat.le_refl _)).more hb.size)
  have nR4 := Lib.hid ((R4.out.below hb (Nat.le_refl _)).more hb.size)
  have nG1 := Lib.hid (oldG G1.out hb (Nat.le_refl _))
  have nG2 := Lib.hid (oldG G2.out hb (Nat.le_refl _))
  have nG3 := Lib.hid (oldG G3.out hb (Nat.le_refl _))
  clear hb
  clear HB R1 R2 R3 R4 G1 G2 G3
  have HB := nHB
  have R1 := nR1
  have R2 := nR2
  have R3 := nR3
  have R4 := nR4
  have G1 := nG1
  have G2 := nG2
  have G3 := nG3
  clear nHB nR1 nR2 nR3 nR4 nG1 nG2 nG3
  go_wp2_with fail
  refine (ex7_u _ (HT.out.below HB.out)).mono ?_
  rintro e w11 ⟨rfl, hb⟩
  have nHB := Lib.hid (belG HB.out hb HB.out.size)
  have nR1 := Lib.hid ((R1.out.below hb (Nat.le_refl _)).more hb.size)
  have nR2 := Lib.hid ((R2.out.below hb (Nat.le_refl _)).more hb.size)
  have nR3 := Lib.hid ((R3.out.below hb (Nat.le_refl _)).more hb.size)
  have nR4 := Lib.hid ((R4.out.below hb (Nat.le_refl _)).more hb.size)
  have nG1 := Lib.hid (oldG G1.out hb (Nat.le_refl _))
  have nG2 := Lib.hid (oldG G2.out hb (Nat.le_refl _))
  have nG3 := Lib.hid (oldG G3.out hb (Nat.le_refl _))
  clear hb
  clear HB R1 R2 R3 R4 G1 G2 G3
  have HB := nHB
  have R1 := nR1
  have R2 := nR2
  have R3 := nR3
  have R4 := nR4
  have G1 := nG1
  have G2 := nG2
  have G3 := nG3
  clear nHB nR1 nR2 nR3 nR4 nG1 nG2 nG3
  obtain ⟨g1x, g1y⟩ := cG2 G1.out
  go_wp2_with fail
  clear g1x g1y
  refine (ex7_q A1 c1 _ p1 p2 R1.out (HT.out.below HB.out)).mono ?_
  rintro e w12 ⟨rfl, hb⟩
  have nHB := Lib.hid (belG HB.out hb HB.out.size)
  have nR1 := Lib.hid ((R1.out.below hb (Nat.le_refl _)).more hb.size)
  have nR2 := Lib.hid ((R2.out.below hb (Nat.le_refl _)).more hb.size)
  have nR3 := Lib.hid ((R3.out.below hb (Nat.le_refl _)).more hb.size)
  have nR4 := Lib.hid ((R4.out.below hb (Nat.le_refl _)).more hb.size)
  have nG1 := Lib.hid (oldG G1.out hb (Nat.le_refl _))
  have nG2 := Lib.hid (oldG G2.out hb (Nat.le_refl _))
  have nG3 := Lib.hid (oldG G3.out hb (Nat.le_refl _))
  clear hb
  clear HB R1 R2 R3 R4 G1 G2 G3
  have HB := nHB
  have R1 := nR1
  have R2 := nR2
  have R3 := nR3
  have R4 := nR4
  have G1 := nG1
  have G2 := nG2
  have G3 := nG3
  clear nHB nR1 nR2 nR3 nR4 nG1 nG2 nG3
  obtain ⟨g1x, g1y⟩ := cG2 G1.out
  obtain ⟨g3x, g3y⟩ := cG2 G3.out
  go_wp2_with fail
  clear g1x g1y g3x g3y
  refine (ex7_n A1 A5 c1 c5 _ p1 p2 R1.out p6 (HT.out.below HB.out)).mono ?_
  rintro e w13 ⟨rfl, hb⟩
  have nHB := Lib.hid (belG HB.out hb HB.out.size)
  have nR1 := Lib.hid ((R1.out.below hb (Nat.le_refl _)).more hb.size)
  have nR2 := Lib.hid ((R2.out.below hb (Nat.le_refl _)).more hb.size)
  have nR3 := Lib.hid ((R3.out.below hb (Nat.le_refl _)).more hb.size)
  have nR4 := Lib.hid ((R4.out.below hb (Nat.le_refl _)).more hb.size)
  have nG1 := Lib.hid (oldG G1.out hb (Nat.le_refl _))
  have nG2 := Lib.hid (oldG G2.out hb (Nat.le_refl _))
  have nG3 := Lib.hid (oldG G3.out hb (Nat.le_refl _))
  clear hb
  clear HB R1 R2 R3 R4 G1 G2 G3
  have HB := nHB
  have R1 := nR1
  have R2 := nR2
  have R3 := nR3
  have R4 := nR4
  have G1 := nG1
  have G2 := nG2
  have G3 := nG3
  clear nHB nR1 nR2 nR3 nR4 nG1 nG2 nG3
  go_wp2_with fail
  go_ret
  exact ⟨by first | rfl | simp, HB.out⟩
end Go.Proofs.YtpfjecjfooefoaaDoor
