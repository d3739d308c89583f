
/- shown: the document's example (hub). -/
import Derived.Test.YtplekllhnpljiaaJ28
namespace Go.Proofs.Ytplekllhnpljiaa
open Go.RowKit

def k9a : Hb := raiseH hb0 0
def k9b : Hb := raiseH k9a 2
def k9c : Hb := { k9b with next := 1 }
def k9d : Hb := { k9b with next := 3 }
def k9e : Hb := { k9b with next := 1 }
set_option maxRecDepth 100000 in
theorem k9a_right : RightHb k9a := raise_right hb0_right 0
set_option maxRecDepth 100000 in
theorem k9b_right : RightHb k9b := raise_right k9a_right 2
set_option maxRecDepth 100000 in
theorem k9c_right : RightHb k9c := ⟨k9b_right.1, by show (0 : Int) ≤ 1 ∧ (1 : Int) < 4; decide⟩
set_option maxRecDepth 100000 in
theorem k9d_right : RightHb k9d := ⟨k9b_right.1, by show (0 : Int) ≤ 3 ∧ (3 : Int) < 4; decide⟩
set_option maxRecDepth 100000 in
theorem k9a_64 : Hb64 k9a := raise_64 hb0_64 0
set_option maxRecDepth 100000 in
theorem k9b_64 : Hb64 k9b := raise_64 k9a_64 2
set_option maxRecDepth 100000 in
theorem k9c_64 : Hb64 k9c := ⟨k9b_64.1, by show B64 1; unfold B64; decide⟩
set_option maxRecDepth 100000 in
theorem k9d_64 : Hb64 k9d := ⟨k9b_64.1, by show B64 3; unfold B64; decide⟩
set_option maxRecDepth 100000 in
theorem r9a : raiseR hb0 0 = (k9a, 0) := rfl
set_option maxRecDepth 100000 in
theorem r9b : raiseR k9a 2 = (k9b, 0) := rfl
set_option maxRecDepth 100000 in
theorem p9c : pickR k9b = (k9c, 0, 0) := rfl
set_option maxRecDepth 100000 in
theorem p9d : pickR k9c = (k9d, 2, 0) := rfl
set_option maxRecDepth 100000 in
theorem p9e : pickR k9d = (k9c, 0, 0) := rfl
set_option maxRecDepth 100000 in
theorem p90 : pickR hb0 = (hb0, 0, 11) := rfl
set_option maxRecDepth 100000 in
theorem push9 : (pushR k9c 2 [0, 1, 7]).2.1 = [[7]] ∧ (pushR k9c 2 [0, 1, 7]).2.2 = 0 := ⟨rfl, rfl⟩
set_option maxRecDepth 100000 in
theorem c9 : cutR k9c 0 = (cutH k9c 0, 0) := rfl
def hb4 : Hb := { hb0 with next := 4 }
set_option maxRecDepth 100000 in
theorem b64_lit {n : Int} (h : (decide (-9223372036854775808 ≤ n) && decide (n ≤ 9223372036854775807)) = true) : B64 n := by
  rw [Bool.and_eq_true, decide_eq_true_eq, decide_eq_true_eq] at h
  exact h
set_option maxRecDepth 100000 in
theorem ex9_a (W : World) : Calls Try.prog 18 #[.agg #[.bool false, .bool false, .bool false, .bool false, .slice none 0 0, .int .i64 0, .int .i64 0, .slice none 0 0, .int .i64 0, .int .i64 0, .slice none 0 0, .int .i64 0, .int .i64 0, .slice none 0 0, .int .i64 0, .int .i64 0, .int .i64 0, .int .i64 0, .int .i64 0, .int .i64 0, .int .i64 0], .int .i64 0] W fun e W' => AnsHb W' e k9a 0 ∧ Below W.heap.size W W' := by
  have h := hRaise_any wh0 hb0 0 W hb0_right hb0_64 (hubR0 W) b64_0
  rw [r9a] at h
  exact h
set_option maxRecDepth 100000 in
theorem ex9_b (x : Wh) (W : World) (hr : HubR W x k9a) : Calls Try.prog 18 #[.agg (hubC x k9a), .int .i64 2] W fun e W' => AnsHb W' e k9b 0 ∧ Below W.heap.size W W' := by
  have h := hRaise_any x k9a 2 W k9a_right k9a_64 hr (b64_lit (by decide))
  rw [r9b] at h
  exact h
set_option maxRecDepth 100000 in
theorem ex9_c (x : Wh) (W : World) (hr : HubR W x k9b) : Calls Try.prog 14 #[.agg (hubC x k9b)] W fun e W' => AnsPk W' e (k9c, 0, 0) ∧ Below W.heap.size W W' := by
  have h := hPick_any x k9b W k9b_right k9b_64 hr
  rw [p9c] at h
  exact h
set_option maxRecDepth 100000 in
theorem ex9_d (x : Wh) (W : World) (hr : HubR W x k9c) : Calls Try.prog 14 #[.agg (hubC x k9c)] W fun e W' => AnsPk W' e (k9d, 2, 0) ∧ Below W.heap.size W W' := by
  have h := hPick_any x k9c W k9c_right k9c_64 hr
  rw [p9d] at h
  exact h
set_option maxRecDepth 100000 in
theorem ex9_e (x : Wh) (W : World) (hr : HubR W x k9d) : Calls Try.prog 14 #[.agg (hubC x k9d)] W fun e W' => AnsPk W' e (k9c, 0, 0) ∧ Below W.heap.size W W' := by
  have h := hPick_any x k9d W k9d_right k9d_64 hr
  rw [p9e] at h
  exact h
set_option maxRecDepth 100000 in
theorem ex9_p (x : Wh) (W : World) (hr : HubR W x k9c) : Calls Try.prog 22 #[.agg (hubC x k9c), .int .i64 2, .slice (some ⟨W.heap.size, 0, none⟩) 3 3] (W.alloc (.cells #[.int .u8 0, .int .u8 1, .int .u8 7] 5)) fun e W' => (∃ x h A c, e = .returned (.tuple #[.agg (hubC x h), .slice A 1 c, .int .i64 0]) ∧ HubR W' x h ∧ Mat W' W'.heap.size A [[7]]) ∧ Below (W.alloc (.cells #[.int .u8 0, .int .u8 1, .int .u8 7] 5)).heap.size (W.alloc (.cells #[.int .u8 0, .int .u8 1, .int .u8 7] 5)) W' := by
  refine (hPush_any x k9c 2 (some ⟨W.heap.size, 0, none⟩) [0, 1, 7] 3 (W.alloc (.cells #[.int .u8 0, .int .u8 1, .int .u8 7] 5)) k9c_right k9c_64 (hr.go ((Below.refl _ _).alloc (Nat.le_refl _) _)) (b64_lit (by decide)) (by decide) (by decide) (by decide) (rd_new8 W [0, 1, 7])).mono fun e W' h => ⟨?_, h.2⟩
  obtain ⟨x, A, c, e1, h1, -, -, h2⟩ := h.1
  rw [push9.1] at e1 h2
  rw [push9.2] at e1
  exact ⟨x, _, A, c, e1, h1, h2⟩
set_option maxRecDepth 100000 in
theorem ex9_t (x : Wh) (W : World) (hr : HubR W x k9c) : Calls Try.prog 20 #[.agg (hubC x k9c), .int .i64 0] W fun e W' => AnsHb W' e (cutH k9c 0) 0 ∧ Below W.heap.size W W' := by
  have h := hCut_any x k9c 0 W k9c_right k9c_64 hr b64_0
  rw [c9] at h
  exact h
set_option maxRecDepth 100000 in
theorem ex9_0 (W : World) : Calls Try.prog 14 #[.agg #[.bool false, .bool false, .bool false, .bool false, .slice none 0 0, .int .i64 0, .int .i64 0, .slice none 0 0, .int .i64 0, .int .i64 0, .slice none 0 0, .int .i64 0, .int .i64 0, .slice none 0 0, .int .i64 0, .int .i64 0, .int .i64 0, .int .i64 0, .int .i64 0, .int .i64 0, .int .i64 0]] W fun e W' => AnsPk W' e (hb0, 0, 11) ∧ Below W.heap.size W W' := by
  have h := hPick_any wh0 hb0 W hb0_right hb0_64 (hubR0 W)
  rw [p90] at h
  exact h
set_option maxRecDepth 100000 in
theorem ex9_s (A : Option Addr) (c : Nat) (W : World) (hr : Rd W W.heap.size A [7]) : Calls Try.prog 28 #[.slice A 1 c, .slice (some ⟨W.heap.size, 0, none⟩) 1 1] (W.alloc (.cells #[.int .u8 7] 5)) fun e W' => e = .returned (.bool true) ∧ Below (W.alloc (.cells #[.int .u8 7] 5)).heap.size (W.alloc (.cells #[.int .u8 7] 5)) W' :=
  (same_any A (some ⟨W.heap.size, 0, none⟩) [7] [7] c 1 _ _ _ (hr.go ((Below.refl _ _).alloc (Nat.le_refl _) _)) (rd_new8 W [7])).mono fun e W' h => ⟨by simpa using h.1, by rw [← h.2]; exact Below.refl _ _⟩
set_option maxRecDepth 100000 in
theorem any9 : anyH (cutH k9c 0) = true := rfl
set_option maxRecDepth 100000 in
theorem any90 : anyH hb0 = false := rfl
set_option maxRecDepth 100000 in
theorem few9 {h : Hb} (k : RightHb h) : FewB h := k.b
set_option maxRecDepth 100000 in
theorem few94 : FewB hb4 := hb0_right.b
set_option maxRecDepth 100000 in
theorem hb4_64 : Hb64 hb4 := ⟨hb0_64.1, by show B64 4; unfold B64; decide⟩
set_option maxRecDepth 100000 in
theorem right94 : ¬ RightHb hb4 := fun h => absurd h.2.2 (by decide)
set_option maxRecDepth 100000 in
theorem same9 : ¬ SameHb k9a k9c := fun h => absurd h.2 (by decide)
set_option maxRecDepth 100000 in
theorem cut9_64 : Hb64 (cutH k9c 0) := cut_64 k9c_64 0
set_option maxRecDepth 100000 in
theorem cut9_b : FewB (cutH k9c 0) := (cut_right k9c_right 0).b
set_option maxRecDepth 100000 in
theorem ex9_y (x : Wh) (W : World) (hr : HubR W x (cutH k9c 0)) : Calls Try.prog 16 #[.agg (hubC x (cutH k9c 0))] W fun e W' => e = .returned (.bool true) ∧ Below W.heap.size W W' := by
  have h := hAny_any x (cutH k9c 0) W cut9_b cut9_64 hr
  rw [any9] at h
  exact h
set_option maxRecDepth 100000 in
theorem ex9_z (W : World) : Calls Try.prog 16 #[.agg #[.bool false, .bool false, .bool false, .bool false, .slice none 0 0, .int .i64 0, .int .i64 0, .slice none 0 0, .int .i64 0, .int .i64 0, .slice none 0 0, .int .i64 0, .int .i64 0, .slice none 0 0, .int .i64 0, .int .i64 0, .int .i64 0, .int .i64 0, .int .i64 0, .int .i64 0, .int .i64 0]] W fun e W' => e = .returned (.bool false) ∧ Below W.heap.size W W' := by
  have h := hAny_any wh0 hb0 W hb0_right.b hb0_64 (hubR0 W)
  rw [any90] at h
  exact h
set_option maxRecDepth 100000 in
theorem ex9_r (x : Wh) (W : World) (hr : HubR W x k9c) : Calls Try.prog 11 #[.agg (hubC x k9c)] W fun e W' => e = .returned (.bool true) ∧ Below W.heap.size W W' := by
  have h := hRight_any x k9c W k9c_right.b k9c_64 hr
  rw [decide_eq_true k9c_right] at h
  exact h
set_option maxRecDepth 100000 in
theorem ex9_q (W : World) : Calls Try.prog 11 #[.agg #[.bool false, .bool false, .bool false, .bool false, .slice none 0 0, .int .i64 0, .int .i64 0, .slice none 0 0, .int .i64 0, .int .i64 0, .slice none 0 0, .int .i64 0, .int .i64 0, .slice none 0 0, .int .i64 0, .int .i64 0, .int .i64 0, .int .i64 0, .int .i64 0, .int .i64 0, .int .i64 4]] W fun e W' => e = .returned (.bool false) ∧ Below W.heap.size W W' := by
  have h := hRight_any wh0 hb4 W few94 hb4_64 (fun i hi => hubR0 W i hi)
  rw [decide_eq_false right94] at h
  exact h
set_option maxRecDepth 100000 in
theorem ex9_m (x : Wh) (W : World) (hr : HubR W x k9a) : Calls Try.prog 12 #[.agg (hubC x k9a), .agg (hubC x k9a)] W fun e W' => e = .returned (.bool true) ∧ Below W.heap.size W W' := by
  have h := hSame_any x x k9a k9a W k9a_right.b k9a_right.b k9a_64 k9a_64 hr hr
  rw [decide_eq_true (SameHb.refl k9a)] at h
  exact h
set_option maxRecDepth 100000 in
theorem ex9_n (x y : Wh) (W : World) (hr : HubR W x k9a) (hs : HubR W y k9c) : Calls Try.prog 12 #[.agg (hubC x k9a), .agg (hubC y k9c)] W fun e W' => e = .returned (.bool false) ∧ Below W.heap.size W W' := by
  have h := hSame_any x y k9a k9c W k9a_right.b k9c_right.b k9a_64 k9c_64 hr hs
  rw [decide_eq_false same9] at h
  exact h

set_option maxRecDepth 100000 in
set_option maxHeartbeats 4000000 in
theorem shown9_any (W : World) : Calls Try.prog 8 #[] W fun e W' => e = .returned (.bool true) ∧ Below W.heap.size W W' := by
  have HB := Lib.hid (Below.refl W.heap.size W)
  go_enter Try.func8, Try.ntmps8
  go_wp2_with fail
  refine (ex9_a W).mono ?_
  rintro e w1 ⟨⟨x1, rfl, h1⟩, hb⟩
  have nHB := Lib.hid (belG HB.out hb HB.out.size)
  clear hb
  clear HB 
  have HB := nHB
  clear nHB 
  have R1 := Lib.hid h1
  clear h1
  have LB := Lib.hid HB.out.size
  obtain ⟨V1, hV1⟩ : ∃ V, V = w1.alloc (.cells (hubC x1 k9a) 29) := ⟨_, rfl⟩
  have ha := (Below.refl w1.heap.size w1).alloc (Nat.le_refl _) (.cells (hubC x1 k9a) 29)
  have hg := heap_alloc_new w1 (.cells (hubC x1 k9a) 29)
  have nHB := Lib.hid (HB.out.alloc HB.out.size (.cells (hubC x1 k9a) 29))
  rw [← hV1] at ha hg nHB
  have nR1 := Lib.hid ((R1.out.below ha (Nat.le_refl _)).more ha.size)
  obtain ⟨g1, hg1⟩ : ∃ g, g = w1.heap.size := ⟨_, rfl⟩
  rw [← hg1] at hg
  have HXG1 := Lib.hid hg1
  have G1 := Lib.hid hg
  have HV := Lib.hid hV1
  clear ha hg hV1 hg1
  clear HB R1
  have HB := nHB
  have R1 := nR1
  clear nHB nR1
  have LEG1 := Lib.hid (show W.heap.size ≤ g1 from by rw [HXG1.out]; exact LB.out)
  clear LB
  go_upto_region 2 with (refine storeHb _ (.tmp 1) (.tmp 22) _ x1 k9a _ (heap_alloc_new _ _) rfl rfl rfl rfl rfl ?_; rw [setRowG_fold])
  rw [← HV.out]
  (try rw [← HXG1.out])
  clear HV HXG1
  go_wp2_with (first | (refine loadHb _ (.tmp 1) g1 x1 k9a G1.out rfl rfl rfl ?_))
  refine (ex9_b x1 _ R1.out).mono ?_
  rintro e w2 ⟨⟨x2, rfl, h2⟩, hb⟩
  have nHB := Lib.hid (belG HB.out hb HB.out.size)
  have nR1 := Lib.hid ((R1.out.below hb (Nat.le_refl _)).more hb.size)
  have nG1 := Lib.hid (oldG G1.out hb (Nat.le_refl _))
  clear hb
  clear HB R1 G1
  have HB := nHB
  have R1 := nR1
  have G1 := nG1
  clear nHB nR1 nG1
  have R2 := Lib.hid h2
  clear h2
  have LB := Lib.hid HB.out.size
  have LTG1 := Lib.hid (show g1 < w2.heap.size from (Array.getElem?_eq_some_iff.1 G1.out).1)
  obtain ⟨V2, hV2⟩ : ∃ V, V = w2.alloc (.cells (hubC x2 k9b) 29) := ⟨_, rfl⟩
  have ha := (Below.refl w2.heap.size w2).alloc (Nat.le_refl _) (.cells (hubC x2 k9b) 29)
  have hg := heap_alloc_new w2 (.cells (hubC x2 k9b) 29)
  have nHB := Lib.hid (HB.out.alloc HB.out.size (.cells (hubC x2 k9b) 29))
  rw [← hV2] at ha hg nHB
  have nR1 := Lib.hid ((R1.out.below ha (Nat.le_refl _)).more ha.size)
  have nR2 := Lib.hid ((R2.out.below ha (Nat.le_refl _)).more ha.size)
  have nG1 := Lib.hid (oldG G1.out ha (Nat.le_refl _))
  obtain ⟨g2, hg2⟩ : ∃ g, g = w2.heap.size := ⟨_, rfl⟩
  rw [← hg2] at hg
  have HXG2 := Lib.hid hg2
  have G2 := Lib.hid hg
  have HV := Lib.hid hV2
  clear ha hg hV2 hg2
  clear HB R1 R2 G1
  have HB := nHB
  have R1 := nR1
  have R2 := nR2
  have G1 := nG1
  clear nHB nR1 nR2 nG1
  have LEG2 := Lib.hid (show W.heap.size ≤ g2 from by rw [HXG2.out]; exact LB.out)
  have NEG1G2 := Lib.hid (show g1 ≠ g2 from by have h1 := LTG1.out; rw [HXG2.out]; omega)
  have NEG2G1 := Lib.hid (NEG1G2.out.symm)
  clear LB LTG1
  go_upto_region 3 with (refine storeHb _ (.tmp 3) (.tmp 27) _ x2 k9b _ (heap_alloc_new _ _) rfl rfl rfl rfl rfl ?_; rw [setRowG_fold])
  rw [← HV.out]
  (try rw [← HXG2.out])
  clear HV HXG2
  go_wp2_with (first | (refine loadHb _ (.tmp 1) g1 x1 k9a G1.out rfl rfl rfl ?_) | (refine loadHb _ (.tmp 3) g2 x2 k9b G2.out rfl rfl rfl ?_))
  refine (ex9_c x2 _ R2.out).mono ?_
  rintro e w3 ⟨⟨x3, rfl, h3⟩, hb⟩
  have nHB := Lib.hid (belG HB.out hb HB.out.size)
  have nR1 := Lib.hid ((R1.out.below hb (Nat.le_refl _)).more hb.size)
  have nR2 := Lib.hid ((R2.out.below hb (Nat.le_refl _)).more hb.size)
  have nG1 := Lib.hid (oldG G1.out hb (Nat.le_refl _))
  have nG2 := Lib.hid (oldG G2.out hb (Nat.le_refl _))
  clear hb
  clear HB R1 R2 G1 G2
  have HB := nHB
  have R1 := nR1
  have R2 := nR2
  have G1 := nG1
  have G2 := nG2
  clear nHB nR1 nR2 nG1 nG2
  have R3 := Lib.hid h3
  clear h3
  go_upto_region 4 with (first | (refine loadHb _ (.tmp 1) g1 x1 k9a G1.out rfl rfl rfl ?_) | (refine loadHb _ (.tmp 3) g2 x2 k9b G2.out rfl rfl rfl ?_) | (refine storeHb _ (.tmp 3) (.tmp 32) g2 x3 k9c _ G2.out rfl rfl rfl rfl rfl ?_))
  obtain ⟨V4, hV4⟩ : ∃ V, V = w3.setRow g2 (hubC x3 k9c) := ⟨_, rfl⟩
  have hO : OnlyH w3 V4 g2 := by rw [hV4]; exact (OnlyH.refl _ _).setRow _
  have nHB := Lib.hid (hO.below HB.out LEG2.out)
  have nR1 := Lib.hid (hO.hubR G2.out R1.out)
  have nR2 := Lib.hid (hO.hubR G2.out R2.out)
  have nR3 := Lib.hid (hO.hubR G2.out R3.out)
  have nG1 := Lib.hid (hO.box G1.out NEG1G2.out)
  have nG2 := Lib.hid (show BoxH V4 g2 x3 k9c from by rw [hV4]; exact setRow_heap _ _ _ _ _ _ G2.out)
  rw [← hV4]
  clear hO hV4
  clear HB R1 R2 R3 G1 G2
  have HB := nHB
  have R1 := nR1
  have R2 := nR2
  have R3 := nR3
  have G1 := nG1
  have G2 := nG2
  clear nHB nR1 nR2 nR3 nG1 nG2
  go_wp2_with (first | (refine loadHb _ (.tmp 1) g1 x1 k9a G1.out rfl rfl rfl ?_) | (refine loadHb _ (.tmp 3) g2 x3 k9c G2.out rfl rfl rfl ?_))
  refine (ex9_d x3 _ R3.out).mono ?_
  rintro e w5 ⟨⟨x4, rfl, h4⟩, hb⟩
  have nHB := Lib.hid (belG HB.out hb HB.out.size)
  have nR1 := Lib.hid ((R1.out.below hb (Nat.le_refl _)).more hb.size)
  have nR2 := Lib.hid ((R2.out.below hb (Nat.le_refl _)).more hb.size)
  have nR3 := Lib.hid ((R3.out.below hb (Nat.le_refl _)).more hb.size)
  have nG1 := Lib.hid (oldG G1.out hb (Nat.le_refl _))
  have nG2 := Lib.hid (oldG G2.out hb (Nat.le_refl _))
  clear hb
  clear HB R1 R2 R3 G1 G2
  have HB := nHB
  have R1 := nR1
  have R2 := nR2
  have R3 := nR3
  have G1 := nG1
  have G2 := nG2
  clear nHB nR1 nR2 nR3 nG1 nG2
  have R4 := Lib.hid h4
  clear h4
  go_upto_region 5 with (first | (refine loadHb _ (.tmp 1) g1 x1 k9a G1.out rfl rfl rfl ?_) | (refine loadHb _ (.tmp 3) g2 x3 k9c G2.out rfl rfl rfl ?_) | (refine storeHb _ (.tmp 3) (.tmp 38) g2 x4 k9d _ G2.out rfl rfl rfl rfl rfl ?_))
  obtain ⟨V6, hV6⟩ : ∃ V, V = w5.setRow g2 (hubC x4 k9d) := ⟨_, rfl⟩
  have hO : OnlyH w5 V6 g2 := by rw [hV6]; exact (OnlyH.refl _ _).setRow _
  have nHB := Lib.hid (hO.below HB.out LEG2.out)
  have nR1 := Lib.hid (hO.hubR G2.out R1.out)
  have nR2 := Lib.hid (hO.hubR G2.out R2.out)
  have nR3 := Lib.hid (hO.hubR G2.out R3.out)
  have nR4 := Lib.hid (hO.hubR G2.out R4.out)
  have nG1 := Lib.hid (hO.box G1.out NEG1G2.out)
  have nG2 := Lib.hid (show BoxH V6 g2 x4 k9d from by rw [hV6]; exact setRow_heap _ _ _ _ _ _ G2.out)
  rw [← hV6]
  clear hO hV6
  clear HB R1 R2 R3 R4 G1 G2
  have HB := nHB
  have R1 := nR1
  have R2 := nR2
  have R3 := nR3
  have R4 := nR4
  have G1 := nG1
  have G2 := nG2
  clear nHB nR1 nR2 nR3 nR4 nG1 nG2
  go_wp2_with (first | (refine loadHb _ (.tmp 1) g1 x1 k9a G1.out rfl rfl rfl ?_) | (refine loadHb _ (.tmp 3) g2 x4 k9d G2.out rfl rfl rfl ?_))
  refine (ex9_e x4 _ R4.out).mono ?_
  rintro e w7 ⟨⟨x5, rfl, h5⟩, hb⟩
  have nHB := Lib.hid (belG HB.out hb HB.out.size)
  have nR1 := Lib.hid ((R1.out.below hb (Nat.le_refl _)).more hb.size)
  have nR2 := Lib.hid ((R2.out.below hb (Nat.le_refl _)).more hb.size)
  have nR3 := Lib.hid ((R3.out.below hb (Nat.le_refl _)).more hb.size)
  have nR4 := Lib.hid ((R4.out.below hb (Nat.le_refl _)).more hb.size)
  have nG1 := Lib.hid (oldG G1.out hb (Nat.le_refl _))
  have nG2 := Lib.hid (oldG G2.out hb (Nat.le_refl _))
  clear hb
  clear HB R1 R2 R3 R4 G1 G2
  have HB := nHB
  have R1 := nR1
  have R2 := nR2
  have R3 := nR3
  have R4 := nR4
  have G1 := nG1
  have G2 := nG2
  clear nHB nR1 nR2 nR3 nR4 nG1 nG2
  have R5 := Lib.hid h5
  clear h5
  go_upto_region 6 with (first | (refine loadHb _ (.tmp 1) g1 x1 k9a G1.out rfl rfl rfl ?_) | (refine loadHb _ (.tmp 3) g2 x4 k9d G2.out rfl rfl rfl ?_) | (refine storeHb _ (.tmp 3) (.tmp 44) g2 x5 k9c _ G2.out rfl rfl rfl rfl rfl ?_))
  obtain ⟨V8, hV8⟩ : ∃ V, V = w7.setRow g2 (hubC x5 k9c) := ⟨_, rfl⟩
  have hO : OnlyH w7 V8 g2 := by rw [hV8]; exact (OnlyH.refl _ _).setRow _
  have nHB := Lib.hid (hO.below HB.out LEG2.out)
  have nR1 := Lib.hid (hO.hubR G2.out R1.out)
  have nR2 := Lib.hid (hO.hubR G2.out R2.out)
  have nR3 := Lib.hid (hO.hubR G2.out R3.out)
  have nR4 := Lib.hid (hO.hubR G2.out R4.out)
  have nR5 := Lib.hid (hO.hubR G2.out R5.out)
  have nG1 := Lib.hid (hO.box G1.out NEG1G2.out)
  have nG2 := Lib.hid (show BoxH V8 g2 x5 k9c from by rw [hV8]; exact setRow_heap _ _ _ _ _ _ G2.out)
  rw [← hV8]
  clear hO hV8
  clear HB R1 R2 R3 R4 R5 G1 G2
  have HB := nHB
  have R1 := nR1
  have R2 := nR2
  have R3 := nR3
  have R4 := nR4
  have R5 := nR5
  have G1 := nG1
  have G2 := nG2
  clear nHB nR1 nR2 nR3 nR4 nR5 nG1 nG2
  go_wp2_with (first | (refine loadHb _ (.tmp 1) g1 x1 k9a G1.out rfl rfl rfl ?_) | (refine loadHb _ (.tmp 3) g2 x5 k9c G2.out rfl rfl rfl ?_))
  have hn := HB.out.alloc HB.out.size (.cells #[.int .u8 0, .int .u8 1, .int .u8 7] 5)
  have ha := (Below.refl V8.heap.size V8).alloc (Nat.le_refl _) (.cells #[.int .u8 0, .int .u8 1, .int .u8 7] 5)
  refine (ex9_p x5 _ R5.out).mono ?_
  rintro e w9 ⟨⟨x6, h6, A6, c6, rfl, h7, h8⟩, hb⟩
  have nHB := Lib.hid (belG hn hb hn.size)
  have hb2 := belG ha hb ha.size
  clear hn ha
  have nR1 := Lib.hid ((R1.out.below hb2 (Nat.le_refl _)).more hb2.size)
  have nR2 := Lib.hid ((R2.out.below hb2 (Nat.le_refl _)).more hb2.size)
  have nR3 := Lib.hid ((R3.out.below hb2 (Nat.le_refl _)).more hb2.size)
  have nR4 := Lib.hid ((R4.out.below hb2 (Nat.le_refl _)).more hb2.size)
  have nR5 := Lib.hid ((R5.out.below hb2 (Nat.le_refl _)).more hb2.size)
  have nG1 := Lib.hid (oldG G1.out hb2 (Nat.le_refl _))
  have nG2 := Lib.hid (oldG G2.out hb2 (Nat.le_refl _))
  clear hb hb2
  clear HB R1 R2 R3 R4 R5 G1 G2
  have HB := nHB
  have R1 := nR1
  have R2 := nR2
  have R3 := nR3
  have R4 := nR4
  have R5 := nR5
  have G1 := nG1
  have G2 := nG2
  clear nHB nR1 nR2 nR3 nR4 nR5 nG1 nG2
  have R6 := Lib.hid h7
  have M6 := Lib.hid h8
  clear h7 h8
  have LB := Lib.hid HB.out.size
  have LTG1 := Lib.hid (show g1 < w9.heap.size from (Array.getElem?_eq_some_iff.1 G1.out).1)
  have LTG2 := Lib.hid (show g2 < w9.heap.size from (Array.getElem?_eq_some_iff.1 G2.out).1)
  obtain ⟨V9, hV9⟩ : ∃ V, V = w9.alloc (.cells (hubC x6 h6) 29) := ⟨_, rfl⟩
  have ha := (Below.refl w9.heap.size w9).alloc (Nat.le_refl _) (.cells (hubC x6 h6) 29)
  have hg := heap_alloc_new w9 (.cells (hubC x6 h6) 29)
  have nHB := Lib.hid (HB.out.alloc HB.out.size (.cells (hubC x6 h6) 29))
  rw [← hV9] at ha hg nHB
  have nR1 := Lib.hid ((R1.out.below ha (Nat.le_refl _)).more ha.size)
  have nR2 := Lib.hid ((R2.out.below ha (Nat.le_refl _)).more ha.size)
  have nR3 := Lib.hid ((R3.out.below ha (Nat.le_refl _)).more ha.size)
  have nR4 := Lib.hid ((R4.out.below ha (Nat.le_refl _)).more ha.size)
  have nR5 := Lib.hid ((R5.out.below ha (Nat.le_refl _)).more ha.size)
  have nR6 := Lib.hid ((R6.out.below ha (Nat.le_refl _)).more ha.size)
  have nM6 := Lib.hid ((M6.out.below ha (Nat.le_refl _)).more ha.size)
  have nG1 := Lib.hid (oldG G1.out ha (Nat.le_refl _))
  have nG2 := Lib.hid (oldG G2.out ha (Nat.le_refl _))
  obtain ⟨g6, hg6⟩ : ∃ g, g = w9.heap.size := ⟨_, rfl⟩
  rw [← hg6] at hg
  have HXG6 := Lib.hid hg6
  have G6 := Lib.hid hg
  have HV := Lib.hid hV9
  clear ha hg hV9 hg6
  clear HB R1 R2 R3 R4 R5 R6 M6 G1 G2
  have HB := nHB
  have R1 := nR1
  have R2 := nR2
  have R3 := nR3
  have R4 := nR4
  have R5 := nR5
  have R6 := nR6
  have M6 := nM6
  have G1 := nG1
  have G2 := nG2
  clear nHB nR1 nR2 nR3 nR4 nR5 nR6 nM6 nG1 nG2
  have LEG6 := Lib.hid (show W.heap.size ≤ g6 from by rw [HXG6.out]; exact LB.out)
  have NEG1G6 := Lib.hid (show g1 ≠ g6 from by have h1 := LTG1.out; rw [HXG6.out]; omega)
  have NEG6G1 := Lib.hid (NEG1G6.out.symm)
  have NEG2G6 := Lib.hid (show g2 ≠ g6 from by have h1 := LTG2.out; rw [HXG6.out]; omega)
  have NEG6G2 := Lib.hid (NEG2G6.out.symm)
  clear LB LTG1 LTG2
  go_upto_region 7 with (refine storeHb _ (.tmp 11) (.tmp 51) _ x6 h6 _ (heap_alloc_new _ _) rfl rfl rfl rfl rfl ?_; rw [setRowG_fold])
  rw [← HV.out]
  (try rw [← HXG6.out])
  clear HV HXG6
  go_wp2_with (first | (refine loadHb _ (.tmp 1) g1 x1 k9a G1.out rfl rfl rfl ?_) | (refine loadHb _ (.tmp 3) g2 x5 k9c G2.out rfl rfl rfl ?_) | (refine loadHb _ (.tmp 11) g6 x6 h6 G6.out rfl rfl rfl ?_))
  refine (ex9_t x5 _ R5.out).mono ?_
  rintro e w10 ⟨⟨x7, rfl, h9⟩, hb⟩
  have nHB := Lib.hid (belG HB.out hb HB.out.size)
  have nR1 := Lib.hid ((R1.out.below hb (Nat.le_refl _)).more hb.size)
  have nR2 := Lib.hid ((R2.out.below hb (Nat.le_refl _)).more hb.size)
  have nR3 := Lib.hid ((R3.out.below hb (Nat.le_refl _)).more hb.size)
  have nR4 := Lib.hid ((R4.out.below hb (Nat.le_refl _)).more hb.size)
  have nR5 := Lib.hid ((R5.out.below hb (Nat.le_refl _)).more hb.size)
  have nR6 := Lib.hid ((R6.out.below hb (Nat.le_refl _)).more hb.size)
  have nM6 := Lib.hid ((M6.out.below hb (Nat.le_refl _)).more hb.size)
  have nG1 := Lib.hid (oldG G1.out hb (Nat.le_refl _))
  have nG2 := Lib.hid (oldG G2.out hb (Nat.le_refl _))
  have nG6 := Lib.hid (oldG G6.out hb (Nat.le_refl _))
  clear hb
  clear HB R1 R2 R3 R4 R5 R6 M6 G1 G2 G6
  have HB := nHB
  have R1 := nR1
  have R2 := nR2
  have R3 := nR3
  have R4 := nR4
  have R5 := nR5
  have R6 := nR6
  have M6 := nM6
  have G1 := nG1
  have G2 := nG2
  have G6 := nG6
  clear nHB nR1 nR2 nR3 nR4 nR5 nR6 nM6 nG1 nG2 nG6
  have R7 := Lib.hid h9
  clear h9
  have LB := Lib.hid HB.out.size
  have LTG1 := Lib.hid (show g1 < w10.heap.size from (Array.getElem?_eq_some_iff.1 G1.out).1)
  have LTG2 := Lib.hid (show g2 < w10.heap.size from (Array.getElem?_eq_some_iff.1 G2.out).1)
  have LTG6 := Lib.hid (show g6 < w10.heap.size from (Array.getElem?_eq_some_iff.1 G6.out).1)
  obtain ⟨V10, hV10⟩ : ∃ V, V = w10.alloc (.cells (hubC x7 (cutH k9c 0)) 29) := ⟨_, rfl⟩
  have ha := (Below.refl w10.heap.size w10).alloc (Nat.le_refl _) (.cells (hubC x7 (cutH k9c 0)) 29)
  have hg := heap_alloc_new w10 (.cells (hubC x7 (cutH k9c 0)) 29)
  have nHB := Lib.hid (HB.out.alloc HB.out.size (.cells (hubC x7 (cutH k9c 0)) 29))
  rw [← hV10] at ha hg nHB
  have nR1 := Lib.hid ((R1.out.below ha (Nat.le_refl _)).more ha.size)
  have nR2 := Lib.hid ((R2.out.below ha (Nat.le_refl _)).more ha.size)
  have nR3 := Lib.hid ((R3.out.below ha (Nat.le_refl _)).more ha.size)
  have nR4 := Lib.hid ((R4.out.below ha (Nat.le_refl _)).more ha.size)
  have nR5 := Lib.hid ((R5.out.below ha (Nat.le_refl _)).more ha.size)
  have nR6 := Lib.hid ((R6.out.below ha (Nat.le_refl _)).more ha.size)
  have nM6 := Lib.hid ((M6.out.below ha (Nat.le_refl _)).more ha.size)
  have nR7 := Lib.hid ((R7.out.below ha (Nat.le_refl _)).more ha.size)
  have nG1 := Lib.hid (oldG G1.out ha (Nat.le_refl _))
  have nG2 := Lib.hid (oldG G2.out ha (Nat.le_refl _))
  have nG6 := Lib.hid (oldG G6.out ha (Nat.le_refl _))
  obtain ⟨g7, hg7⟩ : ∃ g, g = w10.heap.size := ⟨_, rfl⟩
  rw [← hg7] at hg
  have HXG7 := Lib.hid hg7
  have G7 := Lib.hid hg
  have HV := Lib.hid hV10
  clear ha hg hV10 hg7
  clear HB R1 R2 R3 R4 R5 R6 M6 R7 G1 G2 G6
  have HB := nHB
  have R1 := nR1
  have R2 := nR2
  have R3 := nR3
  have R4 := nR4
  have R5 := nR5
  have R6 := nR6
  have M6 := nM6
  have R7 := nR7
  have G1 := nG1
  have G2 := nG2
  have G6 := nG6
  clear nHB nR1 nR2 nR3 nR4 nR5 nR6 nM6 nR7 nG1 nG2 nG6
  have LEG7 := Lib.hid (show W.heap.size ≤ g7 from by rw [HXG7.out]; exact LB.out)
  have NEG1G7 := Lib.hid (show g1 ≠ g7 from by have h1 := LTG1.out; rw [HXG7.out]; omega)
  have NEG7G1 := Lib.hid (NEG1G7.out.symm)
  have NEG2G7 := Lib.hid (show g2 ≠ g7 from by have h1 := LTG2.out; rw [HXG7.out]; omega)
  have NEG7G2 := Lib.hid (NEG2G7.out.symm)
  have NEG6G7 := Lib.hid (show g6 ≠ g7 from by have h1 := LTG6.out; rw [HXG7.out]; omega)
  have NEG7G6 := Lib.hid (NEG6G7.out.symm)
  clear LB LTG1 LTG2 LTG6
  go_upto_region 8 with (refine storeHb _ (.tmp 14) (.tmp 57) _ x7 (cutH k9c 0) _ (heap_alloc_new _ _) rfl rfl rfl rfl rfl ?_; rw [setRowG_fold])
  rw [← HV.out]
  (try rw [← HXG7.out])
  clear HV HXG7
  go_wp2_with (first | (refine loadHb _ (.tmp 1) g1 x1 k9a G1.out rfl rfl rfl ?_) | (refine loadHb _ (.tmp 3) g2 x5 k9c G2.out rfl rfl rfl ?_) | (refine loadHb _ (.tmp 11) g6 x6 h6 G6.out rfl rfl rfl ?_) | (refine loadHb _ (.tmp 14) g7 x7 (cutH k9c 0) G7.out rfl rfl rfl ?_))
  refine (ex9_0 _).mono ?_
  rintro e w11 ⟨⟨x8, rfl, h10⟩, hb⟩
  have nHB := Lib.hid (belG HB.out hb HB.out.size)
  have nR1 := Lib.hid ((R1.out.below hb (Nat.le_refl _)).more hb.size)
  have nR2 := Lib.hid ((R2.out.below hb (Nat.le_refl _)).more hb.size)
  have nR3 := Lib.hid ((R3.out.below hb (Nat.le_refl _)).more hb.size)
  have nR4 := Lib.hid ((R4.out.below hb (Nat.le_refl _)).more hb.size)
  have nR5 := Lib.hid ((R5.out.below hb (Nat.le_refl _)).more hb.size)
  have nR6 := Lib.hid ((R6.out.below hb (Nat.le_refl _)).more hb.size)
  have nM6 := Lib.hid ((M6.out.below hb (Nat.le_refl _)).more hb.size)
  have nR7 := Lib.hid ((R7.out.below hb (Nat.le_refl _)).more hb.size)
  have nG1 := Lib.hid (oldG G1.out hb (Nat.le_refl _))
  have nG2 := Lib.hid (oldG G2.out hb (Nat.le_refl _))
  have nG6 := Lib.hid (oldG G6.out hb (Nat.le_refl _))
  have nG7 := Lib.hid (oldG G7.out hb (Nat.le_refl _))
  clear hb
  clear HB R1 R2 R3 R4 R5 R6 M6 R7 G1 G2 G6 G7
  have HB := nHB
  have R1 := nR1
  have R2 := nR2
  have R3 := nR3
  have R4 := nR4
  have R5 := nR5
  have R6 := nR6
  have M6 := nM6
  have R7 := nR7
  have G1 := nG1
  have G2 := nG2
  have G6 := nG6
  have G7 := nG7
  clear nHB nR1 nR2 nR3 nR4 nR5 nR6 nM6 nR7 nG1 nG2 nG6 nG7
  have R8 := Lib.hid h10
  clear h10
  have LB := Lib.hid HB.out.size
  have LTG1 := Lib.hid (show g1 < w11.heap.size from (Array.getElem?_eq_some_iff.1 G1.out).1)
  have LTG2 := Lib.hid (show g2 < w11.heap.size from (Array.getElem?_eq_some_iff.1 G2.out).1)
  have LTG6 := Lib.hid (show g6 < w11.heap.size from (Array.getElem?_eq_some_iff.1 G6.out).1)
  have LTG7 := Lib.hid (show g7 < w11.heap.size from (Array.getElem?_eq_some_iff.1 G7.out).1)
  obtain ⟨V11, hV11⟩ : ∃ V, V = w11.alloc (.cells (hubC x8 hb0) 29) := ⟨_, rfl⟩
  have ha := (Below.refl w11.heap.size w11).alloc (Nat.le_refl _) (.cells (hubC x8 hb0) 29)
  have hg := heap_alloc_new w11 (.cells (hubC x8 hb0) 29)
  have nHB := Lib.hid (HB.out.alloc HB.out.size (.cells (hubC x8 hb0) 29))
  rw [← hV11] at ha hg nHB
  have nR1 := Lib.hid ((R1.out.below ha (Nat.le_refl _)).more ha.size)
  have nR2 := Lib.hid ((R2.out.below ha (Nat.le_refl _)).more ha.size)
  have nR3 := Lib.hid ((R3.out.below ha (Nat.le_refl _)).more ha.size)
  have nR4 := Lib.hid ((R4.out.below ha (Nat.le_refl _)).more ha.size)
  have nR5 := Lib.hid ((R5.out.below ha (Nat.le_refl _)).more ha.size)
  have nR6 := Lib.hid ((R6.out.below ha (Nat.le_refl _)).more ha.size)
  have nM6 := Lib.hid ((M6.out.below ha (Nat.le_refl _)).more ha.size)
  have nR7 := Lib.hid ((R7.out.below ha (Nat.le_refl _)).more ha.size)
  have nR8 := Lib.hid ((R8.out.below ha (Nat.le_refl _)).more ha.size)
  have nG1 := Lib.hid (oldG G1.out ha (Nat.le_refl _))
  have nG2 := Lib.hid (oldG G2.out ha (Nat.le_refl _))
  have nG6 := Lib.hid (oldG G6.out ha (Nat.le_refl _))
  have nG7 := Lib.hid (oldG G7.out ha (Nat.le_refl _))
  obtain ⟨g8, hg8⟩ : ∃ g, g = w11.heap.size := ⟨_, rfl⟩
  rw [← hg8] at hg
  have HXG8 := Lib.hid hg8
  have G8 := Lib.hid hg
  have HV := Lib.hid hV11
  clear ha hg hV11 hg8
  clear HB R1 R2 R3 R4 R5 R6 M6 R7 R8 G1 G2 G6 G7
  have HB := nHB
  have R1 := nR1
  have R2 := nR2
  have R3 := nR3
  have R4 := nR4
  have R5 := nR5
  have R6 := nR6
  have M6 := nM6
  have R7 := nR7
  have R8 := nR8
  have G1 := nG1
  have G2 := nG2
  have G6 := nG6
  have G7 := nG7
  clear nHB nR1 nR2 nR3 nR4 nR5 nR6 nM6 nR7 nR8 nG1 nG2 nG6 nG7
  have LEG8 := Lib.hid (show W.heap.size ≤ g8 from by rw [HXG8.out]; exact LB.out)
  have NEG1G8 := Lib.hid (show g1 ≠ g8 from by have h1 := LTG1.out; rw [HXG8.out]; omega)
  have NEG8G1 := Lib.hid (NEG1G8.out.symm)
  have NEG2G8 := Lib.hid (show g2 ≠ g8 from by have h1 := LTG2.out; rw [HXG8.out]; omega)
  have NEG8G2 := Lib.hid (NEG2G8.out.symm)
  have NEG6G8 := Lib.hid (show g6 ≠ g8 from by have h1 := LTG6.out; rw [HXG8.out]; omega)
  have NEG8G6 := Lib.hid (NEG6G8.out.symm)
  have NEG7G8 := Lib.hid (show g7 ≠ g8 from by have h1 := LTG7.out; rw [HXG8.out]; omega)
  have NEG8G7 := Lib.hid (NEG7G8.out.symm)
  clear LB LTG1 LTG2 LTG6 LTG7
  go_upto_region 9 with (refine storeHb _ (.tmp 16) (.tmp 62) _ x8 hb0 _ (heap_alloc_new _ _) rfl rfl rfl rfl rfl ?_; rw [setRowG_fold])
  rw [← HV.out]
  (try rw [← HXG8.out])
  clear HV HXG8
  obtain ⟨b9, o9, rfl, hb9, hrow9⟩ := M6.out (by simp)
  obtain ⟨AA, cA, hcell, -, -, hrA⟩ := hrow9 0 (by simp)
  simp only [List.getElem_cons_zero, Nat.add_zero, List.length_cons, List.length_nil, Nat.zero_add] at hcell hrA
  have RA := Lib.hid hrA
  clear hrA hrow9 hb9
  go_wp2_with (first | (refine loadHb _ (.tmp 1) g1 x1 k9a G1.out rfl rfl rfl ?_) | (refine loadHb _ (.tmp 3) g2 x5 k9c G2.out rfl rfl rfl ?_) | (refine loadHb _ (.tmp 11) g6 x6 h6 G6.out rfl rfl rfl ?_) | (refine loadHb _ (.tmp 14) g7 x7 (cutH k9c 0) G7.out rfl rfl rfl ?_) | (refine loadHb _ (.tmp 16) g8 x8 hb0 G8.out rfl rfl rfl ?_))
  clear hcell
  have hn := HB.out.alloc HB.out.size (.cells #[.int .u8 7] 5)
  have ha := (Below.refl V11.heap.size V11).alloc (Nat.le_refl _) (.cells #[.int .u8 7] 5)
  refine (ex9_s AA cA _ RA.out).mono ?_
  rintro e w12 ⟨rfl, hb⟩
  have nHB := Lib.hid (belG hn hb hn.size)
  have hb2 := belG ha hb ha.size
  clear hn ha
  have nR1 := Lib.hid ((R1.out.below hb2 (Nat.le_refl _)).more hb2.size)
  have nR2 := Lib.hid ((R2.out.below hb2 (Nat.le_refl _)).more hb2.size)
  have nR3 := Lib.hid ((R3.out.below hb2 (Nat.le_refl _)).more hb2.size)
  have nR4 := Lib.hid ((R4.out.below hb2 (Nat.le_refl _)).more hb2.size)
  have nR5 := Lib.hid ((R5.out.below hb2 (Nat.le_refl _)).more hb2.size)
  have nR6 := Lib.hid ((R6.out.below hb2 (Nat.le_refl _)).more hb2.size)
  have nM6 := Lib.hid ((M6.out.below hb2 (Nat.le_refl _)).more hb2.size)
  have nR7 := Lib.hid ((R7.out.below hb2 (Nat.le_refl _)).more hb2.size)
  have nR8 := Lib.hid ((R8.out.below hb2 (Nat.le_refl _)).more hb2.size)
  have nRA := Lib.hid ((RA.out.below hb2 (Nat.le_refl _)).more hb2.size)
  have nG1 := Lib.hid (oldG G1.out hb2 (Nat.le_refl _))
  have nG2 := Lib.hid (oldG G2.out hb2 (Nat.le_refl _))
  have nG6 := Lib.hid (oldG G6.out hb2 (Nat.le_refl _))
  have nG7 := Lib.hid (oldG G7.out hb2 (Nat.le_refl _))
  have nG8 := Lib.hid (oldG G8.out hb2 (Nat.le_refl _))
  clear hb hb2
  clear HB R1 R2 R3 R4 R5 R6 M6 R7 R8 RA G1 G2 G6 G7 G8
  have HB := nHB
  have R1 := nR1
  have R2 := nR2
  have R3 := nR3
  have R4 := nR4
  have R5 := nR5
  have R6 := nR6
  have M6 := nM6
  have R7 := nR7
  have R8 := nR8
  have RA := nRA
  have G1 := nG1
  have G2 := nG2
  have G6 := nG6
  have G7 := nG7
  have G8 := nG8
  clear nHB nR1 nR2 nR3 nR4 nR5 nR6 nM6 nR7 nR8 nRA nG1 nG2 nG6 nG7 nG8
  go_wp2_with (first | (refine loadHb _ (.tmp 1) g1 x1 k9a G1.out rfl rfl rfl ?_) | (refine loadHb _ (.tmp 3) g2 x5 k9c G2.out rfl rfl rfl ?_) | (refine loadHb _ (.tmp 11) g6 x6 h6 G6.out rfl rfl rfl ?_) | (refine loadHb _ (.tmp 14) g7 x7 (cutH k9c 0) G7.out rfl rfl rfl ?_) | (refine loadHb _ (.tmp 16) g8 x8 hb0 G8.out rfl rfl rfl ?_))
  refine (ex9_y x7 _ R7.out).mono ?_
  rintro e w13 ⟨rfl, hb⟩
  have nHB := Lib.hid (belG HB.out hb HB.out.size)
  have nR1 := Lib.hid ((R1.out.below hb (Nat.le_refl _)).more hb.size)
  have nR2 := Lib.hid ((R2.out.below hb (Nat.le_refl _)).more hb.size)
  have nR3 := Lib.hid ((R3.out.below hb (Nat.le_refl _)).more hb.size)
  have nR4 := Lib.hid ((R4.out.below hb (Nat.le_refl _)).more hb.size)
  have nR5 := Lib.hid ((R5.out.below hb (Nat.le_refl _)).more hb.size)
  have nR6 := Lib.hid ((R6.out.below hb (Nat.le_refl _)).more hb.size)
  have nM6 := Lib.hid ((M6.out.below hb (Nat.le_refl _)).more hb.size)
  have nR7 := Lib.hid ((R7.out.below hb (Nat.le_refl _)).more hb.size)
  have nR8 := Lib.hid ((R8.out.below hb (Nat.le_refl _)).more hb.size)
  have nRA := Lib.hid ((RA.out.below hb (Nat.le_refl _)).more hb.size)
  have nG1 := Lib.hid (oldG G1.out hb (Nat.le_refl _))
  have nG2 := Lib.hid (oldG G2.out hb (Nat.le_refl _))
  have nG6 := Lib.hid (oldG G6.out hb (Nat.le_refl _))
  have nG7 := Lib.hid (oldG G7.out hb (Nat.le_refl _))
  have nG8 := Lib.hid (oldG G8.out hb (Nat.le_refl _))
  clear hb
  clear HB R1 R2 R3 R4 R5 R6 M6 R7 R8 RA G1 G2 G6 G7 G8
  have HB := nHB
  have R1 := nR1
  have R2 := nR2
  have R3 := nR3
  have R4 := nR4
  have R5 := nR5
  have R6 := nR6
  have M6 := nM6
  have R7 := nR7
  have R8 := nR8
  have RA := nRA
  have G1 := nG1
  have G2 := nG2
  have G6 := nG6
  have G7 := nG7
  have G8 := nG8
  clear nHB nR1 nR2 nR3 nR4 nR5 nR6 nM6 nR7 nR8 nRA nG1 nG2 nG6 nG7 nG8
  go_wp2_with (first | (refine loadHb _ (.tmp 1) g1 x1 k9a G1.out rfl rfl rfl ?_) | (refine loadHb _ (.tmp 3) g2 x5 k9c G2.out rfl rfl rfl ?_) | (refine loadHb _ (.tmp 11) g6 x6 h6 G6.out rfl rfl rfl ?_) | (refine loadHb _ (.tmp 14) g7 x7 (cutH k9c 0) G7.out rfl rfl rfl ?_) | (refine loadHb _ (.tmp 16) g8 x8 hb0 G8.out rfl rfl rfl ?_))
  refine (ex9_z _).mono ?_
  rintro e w14 ⟨rfl, hb⟩
  have nHB := Lib.hid (belG HB.out hb HB.out.size)
  have nR1 := Lib.hid ((R1.out.below hb (Nat.le_refl _)).more hb.size)
  have nR2 := Lib.hid ((R2.out.below hb (Nat.le_refl _)).more hb.size)
  have nR3 := Lib.hid ((R3.out.below hb (Nat.le_refl _)).more hb.size)
  have nR4 := Lib.hid ((R4.out.below hb (Nat.le_refl _)).more hb.size)
  have nR5 := Lib.hid ((R5.out.below hb (Nat.le_refl _)).more hb.size)
  have nR6 := Lib.hid ((R6.out.below hb (Nat.le_refl _)).more hb.size)
  have nM6 := Lib.hid ((M6.out.below hb (Nat.le_refl _)).more hb.size)
  have nR7 := Lib.hid ((R7.out.below hb (Nat.le_refl _)).more hb.size)
  have nR8 := Lib.hid ((R8.out.below hb (Nat.le_refl _)).more hb.size)
  have nRA := Lib.hid ((RA.out.below hb (Nat.le_refl _)).more hb.size)
  have nG1 := Lib.hid (oldG G1.out hb (Nat.le_refl _))
  have nG2 := Lib.hid (oldG G2.out hb (Nat.le_refl _))
  have nG6 := Lib.hid (oldG G6.out hb (Nat.le_refl _))
  have nG7 := Lib.hid (oldG G7.out hb (Nat.le_refl _))
  have nG8 := Lib.hid (oldG G8.out hb (Nat.le_refl _))
  clear hb
  clear HB R1 R2 R3 R4 R5 R6 M6 R7 R8 RA G1 G2 G6 G7 G8
  have HB := nHB
  have R1 := nR1
  have R2 := nR2
  have R3 := nR3
  have R4 := nR4
  have R5 := nR5
  have R6 := nR6
  have M6 := nM6
  have R7 := nR7
  have R8 := nR8
  have RA := nRA
  have G1 := nG1
  have G2 := nG2
  have G6 := nG6
  have G7 := nG7
  have G8 := nG8
  clear nHB nR1 nR2 nR3 nR4 nR5 nR6 nM6 nR7 nR8 nRA nG1 nG2 nG6 nG7 nG8
  go_wp2_with (first | (refine loadHb _ (.tmp 1) g1 x1 k9a G1.out rfl rfl rfl ?_) | (refine loadHb _ (.tmp 3) g2 x5 k9c G2.out rfl rfl rfl ?_) | (refine loadHb _ (.tmp 11) g6 x6 h6 G6.out rfl rfl rfl ?_) | (refine loadHb _ (.tmp 14) g7 x7 (cutH k9c 0) G7.out rfl rfl rfl ?_) | (refine loadHb _ (.tmp 16) g8 x8 hb0 G8.out rfl rfl rfl ?_))
  refine (ex9_r x5 _ R5.out).mono ?_
  rintro e w15 ⟨rfl, hb⟩
  have nHB := Lib.hid (belG HB.out hb HB.out.size)
  have nR1 := Lib.hid ((R1.out.below hb (Nat.le_refl _)).more hb.size)
  have nR2 := Lib.hid ((R2.out.below hb (Nat.le_refl _)).more hb.size)
  have nR3 := Lib.hid ((R3.out.below hb (Nat.le_refl _)).more hb.size)
  have nR4 := Lib.hid ((R4.out.below hb (Nat.le_refl _)).more hb.size)
  have nR5 := Lib.hid ((R5.out.below hb (Nat.le_refl _)).more hb.size)
  have nR6 := Lib.hid ((R6.out.below hb (Nat.le_refl _)).more hb.size)
  have nM6 := Lib.hid ((M6.out.below hb (Nat.le_refl _)).more hb.size)
  have nR7 := Lib.hid ((R7.out.below hb (Nat.le_refl _)).more hb.size)
  have nR8 := Lib.hid ((R8.out.below hb (Nat.le_refl _)).more hb.size)
  have nRA := Lib.hid ((RA.out.below hb (Nat.le_refl _)).more hb.size)
  have nG1 := Lib.hid (oldG G1.out hb (Nat.le_refl _))
  have nG2 := Lib.hid (oldG G2.out hb (Nat.le_refl _))
  have nG6 := Lib.hid (oldG G6.out hb (Nat.le_refl _))
  have nG7 := Lib.hid (oldG G7.out hb (Nat.le_refl _))
  have nG8 := Lib.hid (oldG G8.out hb (Nat.le_refl _))
  clear hb
  clear HB R1 R2 R3 R4 R5 R6 M6 R7 R8 RA G1 G2 G6 G7 G8
  have HB := nHB
  have R1 := nR1
  have R2 := nR2
  have R3 := nR3
  have R4 := nR4
  have R5 := nR5
  have R6 := nR6
  have M6 := nM6
  have R7 := nR7
  have R8 := nR8
  have RA := nRA
  have G1 := nG1
  have G2 := nG2
  have G6 := nG6
  have G7 := nG7
  have G8 := nG8
  clear nHB nR1 nR2 nR3 nR4 nR5 nR6 nM6 nR7 nR8 nRA nG1 nG2 nG6 nG7 nG8
  go_wp2_with (first | (refine loadHb _ (.tmp 1) g1 x1 k9a G1.out rfl rfl rfl ?_) | (refine loadHb _ (.tmp 3) g2 x5 k9c G2.out rfl rfl rfl ?_) | (refine loadHb _ (.tmp 11) g6 x6 h6 G6.out rfl rfl rfl ?_) | (refine loadHb _ (.tmp 14) g7 x7 (cutH k9c 0) G7.out rfl rfl rfl ?_) | (refine loadHb _ (.tmp 16) g8 x8 hb0 G8.out rfl rfl rfl ?_))
  refine (ex9_q _).mono ?_
  rintro e w16 ⟨rfl, hb⟩
  have nHB := Lib.hid (belG HB.out hb HB.out.size)
  have nR1 := Lib.hid ((R1.out.below hb (Nat.le_refl _)).more hb.size)
  have nR2 := Lib.hid ((R2.out.below hb (Nat.le_refl _)).more hb.size)
  have nR3 := Lib.hid ((R3.out.below hb (Nat.le_refl _)).more hb.size)
  have nR4 := Lib.hid ((R4.out.below hb (Nat.le_refl _)).more hb.size)
  have nR5 := Lib.hid ((R5.out.below hb (Nat.le_refl _)).more hb.size)
  have nR6 := Lib.hid ((R6.out.below hb (Nat.le_refl _)).more hb.size)
  have nM6 := Lib.hid ((M6.out.below hb (Nat.le_refl _)).more hb.size)
  have nR7 := Lib.hid ((R7.out.below hb (Nat.le_refl _)).more hb.size)
  have nR8 := Lib.hid ((R8.out.below hb (Nat.le_refl _)).more hb.size)
  have nRA := Lib.hid ((RA.out.below hb (Nat.le_refl _)).more hb.size)
  have nG1 := Lib.hid (oldG G1.out hb (Nat.le_refl _))
  have nG2 := Lib.hid (oldG G2.out hb (Nat.le_refl _))
  have nG6 := Lib.hid (oldG G6.out hb (Nat.le_refl _))
  have nG7 := Lib.hid (oldG G7.out hb (Nat.le_refl _))
  have nG8 := Lib.hid (oldG G8.out hb (Nat.le_refl _))
  clear hb
  clear HB R1 R2 R3 R4 R5 R6 M6 R7 R8 RA G1 G2 G6 G7 G8
  have HB := nHB
  have R1 := nR1
  have R2 := nR2
  have R3 := nR3
  have R4 := nR4
  have R5 := nR5
  have R6 := nR6
  have M6 := nM6
  have R7 := nR7
  have R8 := nR8
  have RA := nRA
  have G1 := nG1
  have G2 := nG2
  have G6 := nG6
  have G7 := nG7
  have G8 := nG8
  clear nHB nR1 nR2 nR3 nR4 nR5 nR6 nM6 nR7 nR8 nRA nG1 nG2 nG6 nG7 nG8
  go_wp2_with (first | (refine loadHb _ (.tmp 1) g1 x1 k9a G1.out rfl rfl rfl ?_) | (refine loadHb _ (.tmp 3) g2 x5 k9c G2.out rfl rfl rfl ?_) | (refine loadHb _ (.tmp 11) g6 x6 h6 G6.out rfl rfl rfl ?_) | (refine loadHb _ (.tmp 14) g7 x7 (cutH k9c 0) G7.out rfl rfl rfl ?_) | (refine loadHb _ (.tmp 16) g8 x8 hb0 G8.out rfl rfl rfl ?_))
  refine (ex9_m x1 _ R1.out).mono ?_
  rintro e w17 ⟨rfl, hb⟩
  have nHB := Lib.hid (belG HB.out hb HB.out.size)
  have nR1 := Lib.hid ((R1.out.below hb (Nat.le_refl _)).more hb.size)
  have nR2 := Lib.hid ((R2.out.below hb (Nat.le_refl _)).more hb.size)
  have nR3 := Lib.hid ((R3.out.below hb (Nat.le_refl _)).more hb.size)
  have nR4 := Lib.hid ((R4.out.below hb (Nat.le_refl _)).more hb.size)
  have nR5 := Lib.hid ((R5.out.below hb (Nat.le_refl _)).more hb.size)
  have nR6 := Lib.hid ((R6.out.below hb (Nat.le_refl _)).more hb.size)
  have nM6 := Lib.hid ((M6.out.below hb (Nat.le_refl _)).more hb.size)
  have nR7 := Lib.hid ((R7.out.below hb (Nat.le_refl _)).more hb.size)
  have nR8 := Lib.hid ((R8.out.below hb (Nat.le_refl _)).more hb.size)
  have nRA := Lib.hid ((RA.out.below hb (Nat.le_refl _)).more hb.size)
  have nG1 := Lib.hid (oldG G1.out hb (Nat.le_refl _))
  have nG2 := Lib.hid (oldG G2.out hb (Nat.le_refl _))
  have nG6 := Lib.hid (oldG G6.out hb (Nat.le_refl _))
  have nG7 := Lib.hid (oldG G7.out hb (Nat.le_refl _))
  have nG8 := Lib.hid (oldG G8.out hb (Nat.le_refl _))
  clear hb
  clear HB R1 R2 R3 R4 R5 R6 M6 R7 R8 RA G1 G2 G6 G7 G8
  have HB := nHB
  have R1 := nR1
  have R2 := nR2
  have R3 := nR3
  have R4 := nR4
  have R5 := nR5
  have R6 := nR6
  have M6 := nM6
  have R7 := nR7
  have R8 := nR8
  have RA := nRA
  have G1 := nG1
  have G2 := nG2
  have G6 := nG6
  have G7 := nG7
  have G8 := nG8
  clear nHB nR1 nR2 nR3 nR4 nR5 nR6 nM6 nR7 nR8 nRA nG1 nG2 nG6 nG7 nG8
  go_wp2_with (first | (refine loadHb _ (.tmp 1) g1 x1 k9a G1.out rfl rfl rfl ?_) | (refine loadHb _ (.tmp 3) g2 x5 k9c G2.out rfl rfl rfl ?_) | (refine loadHb _ (.tmp 11) g6 x6 h6 G6.out rfl rfl rfl ?_) | (refine loadHb _ (.tmp 14) g7 x7 (cutH k9c 0) G7.out rfl rfl rfl ?_) | (refine loadHb _ (.tmp 16) g8 x8 hb0 G8.out rfl rfl rfl ?_))
  refine (ex9_n x1 x5 _ R1.out R5.out).mono ?_
  rintro e w18 ⟨rfl, hb⟩
  have nHB := Lib.hid (belG HB.out hb HB.out.size)
  have nR1 := Lib.hid ((R1.out.below hb (Nat.le_refl _)).more hb.size)
  have nR2 := Lib.hid ((R2.out.below hb (Nat.le_refl _)).more hb.size)
  have nR3 := Lib.hid ((R3.out.below hb (Nat.le_refl _)).more hb.size)
  have nR4 := Lib.hid ((R4.out.below hb (Nat.le_refl _)).more hb.size)
  have nR5 := Lib.hid ((R5.out.below hb (Nat.le_refl _)).more hb.size)
  have nR6 := Lib.hid ((R6.out.below hb (Nat.le_refl _)).more hb.size)
  have nM6 := Lib.hid ((M6.out.below hb (Nat.le_refl _)).more hb.size)
  have nR7 := Lib.hid ((R7.out.below hb (Nat.le_refl _)).more hb.size)
  have nR8 := Lib.hid ((R8.out.below hb (Nat.le_refl _)).more hb.size)
  have nRA := Lib.hid ((RA.out.below hb (Nat.le_refl _)).more hb.size)
  have nG1 := Lib.hid (oldG G1.out hb (Nat.le_refl _))
  have nG2 := Lib.hid (oldG G2.out hb (Nat.le_refl _))
  have nG6 := Lib.hid (oldG G6.out hb (Nat.le_refl _))
  have nG7 := Lib.hid (oldG G7.out hb (Nat.le_refl _))
  have nG8 := Lib.hid (oldG G8.out hb (Nat.le_refl _))
  clear hb
  clear HB R1 R2 R3 R4 R5 R6 M6 R7 R8 RA G1 G2 G6 G7 G8
  have HB := nHB
  have R1 := nR1
  have R2 := nR2
  have R3 := nR3
  have R4 := nR4
  have R5 := nR5
  have R6 := nR6
  have M6 := nM6
  have R7 := nR7
  have R8 := nR8
  have RA := nRA
  have G1 := nG1
  have G2 := nG2
  have G6 := nG6
  have G7 := nG7
  have G8 := nG8
  clear nHB nR1 nR2 nR3 nR4 nR5 nR6 nM6 nR7 nR8 nRA nG1 nG2 nG6 nG7 nG8
  go_wp2_with (first | (refine loadHb _ (.tmp 1) g1 x1 k9a G1.out rfl rfl rfl ?_) | (refine loadHb _ (.tmp 3) g2 x5 k9c G2.out rfl rfl rfl ?_) | (refine loadHb _ (.tmp 11) g6 x6 h6 G6.out rfl rfl rfl ?_) | (refine loadHb _ (.tmp 14) g7 x7 (cutH k9c 0) G7.out rfl rfl rfl ?_) | (refine loadHb _ (.tmp 16) g8 x8 hb0 G8.out rfl rfl rfl ?_))
  go_ret
  exact ⟨by first | rfl | simp, HB.out⟩
end Go.Proofs.Ytplekllhnpljiaa
