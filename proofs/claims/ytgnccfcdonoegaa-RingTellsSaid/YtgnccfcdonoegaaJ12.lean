
/- shown: the document's example (ring). -/
import Derived.Test.YtgnccfcdonoegaaJ11
namespace Go.Proofs.Ytgnccfcdonoegaa
open Go.RowKit

def k1 : List UInt8 := keyL 1
def k2 : List UInt8 := keyL 2
def r11a : Rg := ⟨⟨1, keyL 1⟩, gn0, gn0, 0, 1⟩
def r11o : Rg := ⟨⟨1, keyL 1⟩, gn0, ⟨2, keyL 2⟩, 0, 2⟩
def r11x (k : Nat) : Rg := ⟨⟨2, keyL 2⟩, ⟨1, keyL 1⟩, gn0, 16 - (k : Int), 2⟩
def r11z : Rg := ⟨⟨2, keyL 2⟩, gn0, gn0, 0, 2⟩
def r11n : Rg := ⟨gn0, gn0, gn0, 0, 1⟩
set_option maxRecDepth 100000 in
theorem real1 : RealG ⟨1, keyL 1⟩ := ⟨by show (1 : Int) ≤ 1; omega, by show (1 : Int) ≤ _; omega, keyL_len 1⟩
set_option maxRecDepth 100000 in
theorem real2 : RealG ⟨2, keyL 2⟩ := ⟨by show (1 : Int) ≤ 2; omega, by show (2 : Int) ≤ _; omega, keyL_len 2⟩
set_option maxRecDepth 100000 in
theorem a11_new : newR (keyL 1) = (r11a, 0) := by unfold newR; rw [if_pos (keyL_len 1)]; rfl
set_option maxRecDepth 100000 in
theorem a11_right : RightR r11a := by have h := new_right (k := keyL 1); rw [a11_new] at h; exact h
set_option maxRecDepth 100000 in
theorem a11_ne : r11a ≠ rg0 := fun h => by have h1 := congrArg Rg.top h; exact absurd h1 (by decide)
set_option maxRecDepth 100000 in
theorem a11_next : nextR r11a = (2, 0) := by unfold nextR; rw [if_neg a11_ne, if_neg (by decide)]; rfl
set_option maxRecDepth 100000 in
theorem a11_offer : offerR r11a 2 (keyL 2) = (r11o, 0) := by
  unfold offerR
  rw [if_neg (by rw [keyL_len]; decide), if_neg (by rintro (h | h | h); exact a11_ne h; exact absurd h (by decide); exact absurd h (by decide))]
  rfl
set_option maxRecDepth 100000 in
theorem o11_right : RightR r11o := by have h := offer_right a11_right 2 (keyL 2); rw [a11_offer] at h; exact h
set_option maxRecDepth 100000 in
theorem o11_turn : turnR r11o = (r11x 0, 0) := by unfold turnR; rw [if_neg (by decide)]; rfl
set_option maxRecDepth 100000 in
theorem x11_right {k : Nat} (hk : k ≤ 15) : RightR (r11x k) :=
  .inr ⟨real2, by show (2 : Int) ≤ _; omega, by show (2 : Int) ≤ 2; omega, by show (0 : Int) ≤ 2; omega, .inr ⟨real1, by show (1 : Int) < 2; omega, by show (1 : Int) ≤ 16 - (k : Int); omega, by show 16 - (k : Int) ≤ 16; omega⟩, .inl rfl⟩
set_option maxRecDepth 100000 in
theorem x11_tick {k : Nat} (hk : k < 15) : tickR (r11x k) = r11x (k + 1) := by
  unfold tickR
  rw [if_pos (show (1 : Int) < (r11x k).left from by show (1 : Int) < 16 - (k : Int); omega)]
  show (⟨_, _, _, 16 - (k : Int) - 1, _⟩ : Rg) = ⟨_, _, _, 16 - ((k + 1 : Nat) : Int), _⟩
  rw [show 16 - (k : Int) - 1 = 16 - ((k + 1 : Nat) : Int) by omega]
  rfl
set_option maxRecDepth 100000 in
theorem x11_late : tickR (r11x 15) = r11z := by unfold tickR; rw [if_neg (by decide)]; rfl
set_option maxRecDepth 100000 in
theorem z11_right : RightR r11z := by have h := tick_right (x11_right (k := 15) (by omega)); rw [x11_late] at h; exact h
set_option maxRecDepth 100000 in
theorem x11_find : findR (r11x 15) 1 = (keyL 1, true) := by unfold findR; rw [if_neg (by decide), if_neg (by decide), if_pos (by decide)]; rfl
set_option maxRecDepth 100000 in
theorem z11_find : findR r11z 1 = ([], false) := by unfold findR; rw [if_neg (by decide), if_neg (by decide), if_neg (by decide), if_neg (by decide)]
set_option maxRecDepth 100000 in
theorem x11_find2 : findR (r11x 15) 2 = (keyL 2, true) := by unfold findR; rw [if_neg (by decide), if_pos (by decide)]; rfl
set_option maxRecDepth 100000 in
theorem a11_with : withdrawR r11a = r11a := rfl
set_option maxRecDepth 100000 in
theorem a11_o : r11a ≠ r11o := fun h => by have h1 := congrArg Rg.top h; exact absurd h1 (by decide)
set_option maxRecDepth 100000 in
theorem n11 : ¬ RightR r11n := by
  rintro (h | h)
  · have h1 := congrArg Rg.top h; exact absurd h1 (by decide)
  · exact absurd h.1.1 (by decide)
set_option maxRecDepth 100000 in
theorem n11_64 : Rg64 r11n := ⟨b64r0, b64r0, b64r0, b64r0, by unfold B64r; decide⟩
def OneR (W' : World) (e : Ending) (r : Rg) (n : Int) : Prop := ∃ z, e = .returned (.tuple #[.agg (ringC z r), .int .i64 n]) ∧ RingR W' z r
set_option maxRecDepth 100000 in
theorem ex11_key (b : UInt8) (n : Int) (hb : (b.toNat : Int) = n) (W : World) : Calls Try.prog 29 #[.int .u8 n] W fun e W' => (∃ y : Wk, e = .returned (.slice y.1 32 y.2) ∧ KeyR W' y (keyL b)) ∧ Below W.heap.size W W' := by
  rw [← hb]
  exact key_any b W
set_option maxRecDepth 100000 in
theorem ex11_new (y : Wk) (W : World) (h : KeyR W y (keyL 1)) : Calls Try.prog 10 #[.slice y.1 32 y.2] W fun e W' => (∃ z, e = .returned (.tuple #[.agg (ringC z r11a), .int .i64 0]) ∧ RingR W' z r11a) ∧ Below W.heap.size W W' := by
  have h := rNew_any y.1 (keyL 1) y.2 W (by rw [keyL_len]; decide) h
  rw [a11_new, keyL_len] at h
  exact h
set_option maxRecDepth 100000 in
theorem ex11_next (x : Wg) (W : World) (h : RingR W x r11a) : Calls Try.prog 16 #[.agg (ringC x r11a)] W fun e W' => e = .returned (.tuple #[.int .i64 2, .int .i64 0]) ∧ Below W.heap.size W W' := by
  have h := rNext_any x r11a W a11_right (right_64 a11_right) h
  rw [a11_next] at h
  exact h
set_option maxRecDepth 100000 in
theorem ex11_offer (x : Wg) (W : World) (y : Wk) (h : RingR W x r11a) (hk : KeyR W y (keyL 2)) : Calls Try.prog 21 #[.agg (ringC x r11a), .int .i64 2, .slice y.1 32 y.2] W fun e W' => (∃ z, e = .returned (.tuple #[.agg (ringC z r11o), .int .i64 0]) ∧ RingR W' z r11o) ∧ Below W.heap.size W W' := by
  have h := offer_any x r11a 2 2 y W a11_right (right_64 a11_right) (by unfold B64r; decide) h hk
  rw [a11_offer] at h
  exact h
set_option maxRecDepth 100000 in
theorem ex11_turn (x : Wg) (W : World) (h : RingR W x r11o) : Calls Try.prog 23 #[.agg (ringC x r11o)] W fun e W' => (∃ z, e = .returned (.tuple #[.agg (ringC z (r11x 0)), .int .i64 0]) ∧ RingR W' z (r11x 0)) ∧ Below W.heap.size W W' := by
  have h := rTurn_any x r11o W o11_right (right_64 o11_right) h
  rw [o11_turn] at h
  exact h
set_option maxRecDepth 100000 in
theorem ex11_tick (k : Nat) (hk : k < 15) (x : Wg) (W : World) (h : RingR W x (r11x k)) : Calls Try.prog 27 #[.agg (ringC x (r11x k))] W fun e W' => (∃ z, e = .returned (.agg (ringC z (r11x (k + 1)))) ∧ RingR W' z (r11x (k + 1))) ∧ Below W.heap.size W W' := by
  have h := rTick_any x (r11x k) W (x11_right (by omega)) (right_64 (x11_right (by omega))) h
  rw [x11_tick hk] at h
  exact h
set_option maxRecDepth 100000 in
theorem ex11_late (x : Wg) (W : World) (h : RingR W x (r11x 15)) : Calls Try.prog 27 #[.agg (ringC x (r11x 15))] W fun e W' => (∃ z, e = .returned (.agg (ringC z r11z)) ∧ RingR W' z r11z) ∧ Below W.heap.size W W' := by
  have h := rTick_any x (r11x 15) W (x11_right (by omega)) (right_64 (x11_right (by omega))) h
  rw [x11_late] at h
  exact h
set_option maxRecDepth 100000 in
theorem ex11_f1 (x : Wg) (W : World) (h : RingR W x (r11x 15)) : Calls Try.prog 18 #[.agg (ringC x (r11x 15)), .int .i64 1] W fun e W' => (∃ z : Wk, e = .returned (.tuple #[.slice z.1 32 z.2, .bool true]) ∧ KeyR W' z (keyL 1)) ∧ Below W.heap.size W W' := by
  have h := rFind_any x (r11x 15) 1 W (x11_right (by omega)) (right_64 (x11_right (by omega))) h (by unfold B64r; decide)
  rw [x11_find] at h
  unfold AnsFi at h
  simp only [keyL_len] at h
  exact h
set_option maxRecDepth 100000 in
theorem ex11_f2 (x : Wg) (W : World) (h : RingR W x (r11x 15)) : Calls Try.prog 18 #[.agg (ringC x (r11x 15)), .int .i64 2] W fun e W' => (∃ z : Wk, e = .returned (.tuple #[.slice z.1 32 z.2, .bool true]) ∧ KeyR W' z (keyL 2)) ∧ Below W.heap.size W W' := by
  have h := rFind_any x (r11x 15) 2 W (x11_right (by omega)) (right_64 (x11_right (by omega))) h (by unfold B64r; decide)
  rw [x11_find2] at h
  unfold AnsFi at h
  simp only [keyL_len] at h
  exact h
set_option maxRecDepth 100000 in
theorem ex11_f3 (x : Wg) (W : World) (h : RingR W x r11z) : Calls Try.prog 18 #[.agg (ringC x r11z), .int .i64 1] W fun e W' => (∃ z : Wk, e = .returned (.tuple #[.slice z.1 0 z.2, .bool false])) ∧ Below W.heap.size W W' := by
  have h := rFind_any x r11z 1 W z11_right (right_64 z11_right) h (by unfold B64r; decide)
  rw [z11_find] at h
  exact h.mono fun _ _ h => ⟨⟨h.1.choose, h.1.choose_spec.1⟩, h.2⟩
set_option maxRecDepth 100000 in
theorem ex11_s (b : UInt8) (y z : Wk) (W : World) (hy : KeyR W y (keyL b)) (hz : KeyR W z (keyL b)) : Calls Try.prog 20 #[.slice y.1 32 y.2, .slice z.1 32 z.2] W fun e W' => e = .returned (.bool true) ∧ W = W' := by
  have h := same_any y.1 z.1 (keyL b) (keyL b) y.2 z.2 _ _ W hy.2.2 hz.2.2
  rw [keyL_len] at h
  exact h.mono fun _ _ h => ⟨h.1.trans (by simp), h.2⟩
set_option maxRecDepth 100000 in
theorem ex11_r1 (x : Wg) (W : World) (h : RingR W x (r11x 0)) : Calls Try.prog 14 #[.agg (ringC x (r11x 0))] W fun e W' => e = .returned (.bool true) ∧ Below W.heap.size W W' := by
  have h := rRight_any x (r11x 0) W (x11_right (by omega)).k (right_64 (x11_right (by omega))) h
  rw [decide_eq_true (x11_right (by omega))] at h
  exact h
set_option maxRecDepth 100000 in
theorem ex11_r2 (W : World) : Calls Try.prog 14 #[.agg #[.int .i64 0, .slice none 0 0, .int .i64 0, .slice none 0 0, .int .i64 0, .slice none 0 0, .int .i64 0, .int .i64 1]] W fun e W' => e = .returned (.bool false) ∧ Below W.heap.size W W' := by
  have h := rRight_any wg0 r11n W ⟨by decide, by decide, by decide⟩ n11_64 ⟨keyR0 W, keyR0 W, keyR0 W⟩
  rw [decide_eq_false n11] at h
  exact h
set_option maxRecDepth 100000 in
theorem ex11_w (x : Wg) (W : World) (h : RingR W x r11a) : Calls Try.prog 25 #[.agg (ringC x r11a)] W fun e W' => (∃ z, e = .returned (.agg (ringC z r11a)) ∧ RingR W' z r11a) ∧ Below W.heap.size W W' :=
  rWithdraw_any x r11a W a11_right (right_64 a11_right) h
set_option maxRecDepth 100000 in
theorem ex11_s1 (x y : Wg) (W : World) (h : RingR W x r11a) (k : RingR W y r11a) : Calls Try.prog 15 #[.agg (ringC x r11a), .agg (ringC y r11a)] W fun e W' => e = .returned (.bool true) ∧ Below W.heap.size W W' := by
  have h := rSame_any x y r11a r11a W a11_right.k a11_right.k (right_64 a11_right) (right_64 a11_right) h k
  rw [decide_eq_true rfl] at h
  exact h
set_option maxRecDepth 100000 in
theorem ex11_s2 (x y : Wg) (W : World) (h : RingR W x r11a) (k : RingR W y r11o) : Calls Try.prog 15 #[.agg (ringC x r11a), .agg (ringC y r11o)] W fun e W' => e = .returned (.bool false) ∧ Below W.heap.size W W' := by
  have h := rSame_any x y r11a r11o W a11_right.k o11_right.k (right_64 a11_right) (right_64 o11_right) h k
  rw [decide_eq_false a11_o] at h
  exact h
set_option maxRecDepth 100000 in
set_option maxHeartbeats 4000000 in
theorem shown11_any (W : World) :
    Calls Try.prog 8 #[] W fun e W' => e = .returned (.bool true) ∧ Below W.heap.size W W' := by
  have HB := Lib.hid (Below.refl W.heap.size W)
  have Ekey := Lib.hid ex11_key
  have Enew := Lib.hid ex11_new
  have Enext := Lib.hid ex11_next
  have Eoffer := Lib.hid ex11_offer
  have Eturn := Lib.hid ex11_turn
  have Etick := Lib.hid ex11_tick
  have Elate := Lib.hid ex11_late
  have Ef1 := Lib.hid ex11_f1
  have Ef2 := Lib.hid ex11_f2
  have Ef3 := Lib.hid ex11_f3
  have Es := Lib.hid ex11_s
  have Er1 := Lib.hid ex11_r1
  have Er2 := Lib.hid ex11_r2
  have Ew := Lib.hid ex11_w
  have Es1 := Lib.hid ex11_s1
  have Es2 := Lib.hid ex11_s2
  generalize r11a = ra at *
  generalize r11o = ro at *
  generalize r11z = rz at *
  generalize r11x = rx at *
  go_enter Try.func8, Try.ntmps8
  go_wp2_with fail
  refine (Ekey.out 1 1 rfl _).mono ?_
  rintro e w1 ⟨⟨y1, rfl, hk⟩, hb⟩
  have nHB := Lib.hid (belG HB.out hb HB.out.size)
  clear hb
  clear HB 
  have HB := nHB
  clear nHB 
  have RK1 := Lib.hid hk
  clear hk
  go_wp2_with fail
  refine (Enew.out y1 _ RK1.out).mono ?_
  rintro e w2 ⟨⟨x1, rfl, hr⟩, hb⟩
  have nHB := Lib.hid (belG HB.out hb HB.out.size)
  have nRK1 := Lib.hid (RK1.out.go hb)
  clear hb
  clear HB RK1
  have HB := nHB
  have RK1 := nRK1
  clear nHB nRK1
  have RG1 := Lib.hid hr
  clear hr
  have LB := Lib.hid HB.out.size
  obtain ⟨V2, hV2⟩ : ∃ V, V = w2.alloc (.cells (ringC x1 ra) 26) := ⟨_, rfl⟩
  have ha := (Below.refl w2.heap.size w2).alloc (Nat.le_refl _) (.cells (ringC x1 ra) 26)
  have hg := heap_alloc_new w2 (.cells (ringC x1 ra) 26)
  have nHB := Lib.hid (HB.out.alloc HB.out.size (.cells (ringC x1 ra) 26))
  rw [← hV2] at ha hg nHB
  have nRK1 := Lib.hid (RK1.out.go ha)
  have nRG1 := Lib.hid (RG1.out.go ha)
  obtain ⟨g1, hg1⟩ : ∃ g, g = w2.heap.size := ⟨_, rfl⟩
  rw [← hg1] at hg
  have HXG1 := Lib.hid hg1
  have G1 := Lib.hid hg
  have HV := Lib.hid hV2
  clear ha hg hV2 hg1
  clear HB RK1 RG1
  have HB := nHB
  have RK1 := nRK1
  have RG1 := nRG1
  clear nHB nRK1 nRG1
  have LEG1 := Lib.hid (show W.heap.size ≤ g1 from by rw [HXG1.out]; exact LB.out)
  clear LB
  go_upto_region 2 with (refine storeX (.tmp 1) (.tmp 20) _ (ringC x1 ra) _ tyRing rfl (ringC_one _ _) (heap_alloc_new _ _) rfl rfl rfl rfl rfl ?_; rw [setRowG_fold])
  rw [← HV.out]
  (try rw [← HXG1.out])
  clear HV HXG1
  clear RK1
  go_wp2_with (refine loadX (.tmp 1) g1 (ringC x1 ra) tyRing rfl G1.out rfl rfl rfl ?_)
  refine (Enext.out x1 _ RG1.out).mono ?_
  rintro e w3 ⟨rfl, hb⟩
  have nHB := Lib.hid (belG HB.out hb HB.out.size)
  have nRG1 := Lib.hid (RG1.out.go hb)
  have nG1 := Lib.hid (oldG G1.out hb (Nat.le_refl _))
  clear hb
  clear HB RG1 G1
  have HB := nHB
  have RG1 := nRG1
  have G1 := nG1
  clear nHB nRG1 nG1
  go_upto_region 3 with fail
  have COF := Lib.hid (fun w y h k => Eoffer.out x1 w y h k)
  go_cut [5, 6] (fun tp te wx => AnsOf w3 wx tp te ro 0)
  case first =>
    have BB0 := Lib.hid ((Below.refl w3.heap.size w3).drew)
    have KEEP := Lib.hid (fun w' (hW : Below w3.heap.size w3 w') => (show Below w3.heap.size w3 w' from hW))
    refine wp_region_noPanic ?_
    refine wp_region_held_drew (S := fun w' => Below w3.heap.size w3 w') (by kernel_rfl) (KEEP.out _ BB0.out) (fun hHeld => ?_)
    obtain ⟨wz0, hwz⟩ : ∃ x, x = w3.drew := ⟨_, rfl⟩
    rw [← hwz] at BB0 hHeld ⊢
    clear hwz
    refine wpAnyH_take (i := 0) (oi := ?_) (v := .agg (ringC x1 ra)) ?_ (by kernel_rfl) (by decide +kernel) (by decide +kernel) (fun _ _ _ h => h) ?_ (by assumption) ?_
    rotate_left 1
    focus (simp only [List.getElem?_toArray, List.getElem?_cons_zero] <;> rfl)
    · refine yieldsX (T := 26) ?_ (.tmp 1) ?_ ⟨g1, 0, none⟩ ?_ (ringC x1 ra) ?_
      focus rfl
      focus exact rfl
      focus exact rfl
      exact fun w hSw => run_loadX tyRing rfl (Bx.go G1.out hSw)
    (try simp only [Act.put, List.setIfInBounds_toArray, List.set_cons_zero, List.set_cons_succ])
    refine wpAnyH_take (i := 1) (oi := ?_) (v := ?_) ?_ (by kernel_rfl) (by decide +kernel) (by decide +kernel) (fun _ _ _ h => h) ?_ (by assumption) ?_
    rotate_left 2
    focus (simp only [List.getElem?_toArray, List.getElem?_cons_succ, List.getElem?_cons_zero] <;> rfl)
    · refine Or.inl ⟨by rfl, ?_⟩
      intro w hSw
      (try dsimp only at hSw)
      go_simp <;> with_reducible rfl
    (try simp only [Act.put, List.setIfInBounds_toArray, List.set_cons_zero, List.set_cons_succ])
    refine wpAnyH_ready (rs := [2, 7]) (by decide +kernel) (by simp) ?_
    refine AllReadyH.cons rfl (fun K hK => ?_) ?_
    · go_simp
      go_at_call 29
      refine (Ekey.out 2 2 rfl _).mono ?_
      rintro e wz1 ⟨⟨yk, rfl, hk⟩, hb⟩
      have BB1 := Lib.hid (belG BB0.out hb BB0.out.size)
      have KY_1 := Lib.hid hk
      clear hk
      clear hb
      refine hK.out _ _ (KEEP.out _ BB1.out) (fun hHeld => ?_)
      clear hK K
      (try simp only [Act.put, List.setIfInBounds_toArray, List.set_cons_zero, List.set_cons_succ])
      refine wpAnyH_ready (rs := [3, 7]) (by decide +kernel) (by simp) ?_
      refine AllReadyH.cons rfl (fun K hK => ?_) ?_
      · go_simp
        go_at_call 21
        refine (COF.out _ yk (RG1.out.go BB1.out) KY_1.out).mono ?_
        rintro e wz2 ⟨⟨z, rfl, hz⟩, hb⟩
        have BB2 := Lib.hid (belG BB1.out hb BB1.out.size)
        have KY_2 := Lib.hid (KY_1.out.go hb)
        have RZ_2 := Lib.hid hz
        clear hz
        clear hb
        refine hK.out _ _ (KEEP.out _ BB2.out) (fun hHeld => ?_)
        clear hK K
        (try simp only [Act.put, List.setIfInBounds_toArray, List.set_cons_zero, List.set_cons_succ])
        refine wpAnyH_take (i := 4) (oi := ?_) (v := ?_) ?_ (by kernel_rfl) (by decide +kernel) (by decide +kernel) (fun _ _ _ h => h) ?_ (by assumption) ?_
        rotate_left 2
        focus (simp only [List.getElem?_toArray, List.getElem?_cons_succ, List.getElem?_cons_zero] <;> rfl)
        · refine Or.inl ⟨by rfl, ?_⟩
          intro w hSw
          (try dsimp only at hSw)
          go_simp <;> with_reducible rfl
        (try simp only [Act.put, List.setIfInBounds_toArray, List.set_cons_zero, List.set_cons_succ])
        refine wpAnyH_take (i := 5) (oi := ?_) (v := ?_) ?_ (by kernel_rfl) (by decide +kernel) (by decide +kernel) (fun _ _ _ h => h) ?_ (by assumption) ?_
        rotate_left 2
        focus (simp only [List.getElem?_toArray, List.getElem?_cons_succ, List.getElem?_cons_zero] <;> rfl)
        · refine Or.inl ⟨by rfl, ?_⟩
          intro w hSw
          (try dsimp only at hSw)
          go_simp <;> with_reducible rfl
        (try simp only [Act.put, List.setIfInBounds_toArray, List.set_cons_zero, List.set_cons_succ])
        refine wpAnyH_take (i := 6) (oi := ?_) (v := ?_) ?_ (by kernel_rfl) (by decide +kernel) (by decide +kernel) (fun _ _ _ h => h) ?_ (by assumption) ?_
        rotate_left 2
        focus (simp only [List.getElem?_toArray, List.getElem?_cons_succ, List.getElem?_cons_zero] <;> rfl)
        · refine Or.inl ⟨by rfl, ?_⟩
          intro w hSw
          (try dsimp only at hSw)
          go_simp <;> with_reducible rfl
        (try simp only [Act.put, List.setIfInBounds_toArray, List.set_cons_zero, List.set_cons_succ])
        refine wpAnyH_ready (rs := [7]) (by decide +kernel) (by simp) ?_
        refine AllReadyH.cons rfl (fun K hK => ?_) AllReadyH.nil
        go_simp
        obtain ⟨wz3, hwz⟩ : ∃ x, x = wz2.alloc (.cells #[.int .i64 0, .slice none 0 0, .int .i64 0, .slice none 0 0, .int .i64 0, .slice none 0 0, .int .i64 0, .int .i64 0] 26) := ⟨_, rfl⟩
        have hb : Below wz2.heap.size wz2 wz3 := by rw [hwz]; exact (Below.refl wz2.heap.size wz2).alloc (Nat.le_refl _) _
        have hx : Bx wz3 wz2.heap.size 26 (ringC wg0 rg0) := by rw [hwz]; exact Bx.new _ _ _
        have BB3 := Lib.hid (belG BB2.out hb BB2.out.size)
        rw [← hwz]
        obtain ⟨ga3, hga⟩ : ∃ g, g = wz2.heap.size := ⟨_, rfl⟩
        rw [← hga] at hx
        (try rw [← hga])
        have HN_3 := Lib.hid hx
        have LEga3 := Lib.hid (show w3.heap.size ≤ ga3 from by rw [hga]; exact BB2.out.size)
        have KY_3 := Lib.hid (KY_2.out.go hb)
        have RZ_3 := Lib.hid (RZ_2.out.go hb)
        clear hb hx hwz hga
        refine hK.out _ _ (KEEP.out _ BB3.out) (fun hHeld => ?_)
        clear hK K
        (try simp only [Act.put, List.setIfInBounds_toArray, List.set_cons_zero, List.set_cons_succ])
        refine wpAnyH_ready (rs := [8]) (by decide +kernel) (by simp) ?_
        refine AllReadyH.cons rfl (fun K hK => ?_) AllReadyH.nil
        rw [if_pos (by rfl)]
        refine wp_storeX (.tmp 5) (.tmp 32) ga3 (ringC z ro) _ tyRing rfl (ringC_one _ _) HN_3.out rfl rfl rfl rfl ?_
        (try simp only [Act.put, List.setIfInBounds_toArray])
        obtain ⟨wz4, hwz⟩ : ∃ x, x = wz3.setRow ga3 (ringC z ro) := ⟨_, rfl⟩
        have BB4 := Lib.hid (show Below w3.heap.size w3 wz4 from by rw [hwz]; exact Below.setRowG BB3.out LEga3.out _)
        have HN_4 := Lib.hid (show Bx wz4 ga3 _ (ringC z ro) from by rw [hwz]; exact Bx.setRow HN_3.out _)
        have hq := KY_3.out.setRow (C' := (ringC z ro)) HN_3.out (no8_ring _ _)
        rw [← hwz] at hq
        have KY_4 := Lib.hid hq
        clear hq
        have hq := RZ_3.out.setRow (C' := (ringC z ro)) HN_3.out (no8_ring _ _)
        rw [← hwz] at hq
        have RZ_4 := Lib.hid hq
        clear hq
        rw [← hwz]
        clear hwz
        refine hK.out _ _ (KEEP.out _ BB4.out) (fun hHeld => ?_)
        clear hK K
        (try simp only [Act.put, List.setIfInBounds_toArray, List.set_cons_zero, List.set_cons_succ])
        refine wpAnyH_take (i := 9) (oi := ?_) (v := ?_) ?_ (by kernel_rfl) (by decide +kernel) (by decide +kernel) (fun _ _ _ h => h) ?_ (by assumption) ?_
        rotate_left 2
        focus (simp only [List.getElem?_toArray, List.getElem?_cons_succ, List.getElem?_cons_zero] <;> rfl)
        · refine Or.inl ⟨by rfl, ?_⟩
          intro w hSw
          (try dsimp only at hSw)
          go_simp <;> with_reducible rfl
        (try simp only [Act.put])
        refine wpAnyH_done (by decide +kernel) ?_ _
        refine NoPanic.normal ?_
        clear KEEP
        go_wp2_with fail
        go_meet
        case rel => exact ⟨rfl, ga3, z, rfl, HN_4.out, RZ_4.out, BB4.out, LEga3.out⟩
      refine AllReadyH.cons rfl (fun K hK => ?_) AllReadyH.nil
      go_simp
      obtain ⟨wz5, hwz⟩ : ∃ x, x = wz1.alloc (.cells #[.int .i64 0, .slice none 0 0, .int .i64 0, .slice none 0 0, .int .i64 0, .slice none 0 0, .int .i64 0, .int .i64 0] 26) := ⟨_, rfl⟩
      have hb : Below wz1.heap.size wz1 wz5 := by rw [hwz]; exact (Below.refl wz1.heap.size wz1).alloc (Nat.le_refl _) _
      have hx : Bx wz5 wz1.heap.size 26 (ringC wg0 rg0) := by rw [hwz]; exact Bx.new _ _ _
      have BB5 := Lib.hid (belG BB1.out hb BB1.out.size)
      rw [← hwz]
      obtain ⟨ga5, hga⟩ : ∃ g, g = wz1.heap.size := ⟨_, rfl⟩
      rw [← hga] at hx
      (try rw [← hga])
      have HN_5 := Lib.hid hx
      have LEga5 := Lib.hid (show w3.heap.size ≤ ga5 from by rw [hga]; exact BB1.out.size)
      have KY_5 := Lib.hid (KY_1.out.go hb)
      clear hb hx hwz hga
      refine hK.out _ _ (KEEP.out _ BB5.out) (fun hHeld => ?_)
      clear hK K
      (try simp only [Act.put, List.setIfInBounds_toArray, List.set_cons_zero, List.set_cons_succ])
      refine wpAnyH_ready (rs := [3]) (by decide +kernel) (by simp) ?_
      refine AllReadyH.cons rfl (fun K hK => ?_) AllReadyH.nil
      go_simp
      go_at_call 21
      refine (COF.out _ yk (RG1.out.go BB5.out) KY_5.out).mono ?_
      rintro e wz6 ⟨⟨z, rfl, hz⟩, hb⟩
      have BB6 := Lib.hid (belG BB5.out hb BB5.out.size)
      have KY_6 := Lib.hid (KY_5.out.go hb)
      have HN_6 := Lib.hid (Bx.go HN_5.out hb)
      have RZ_6 := Lib.hid hz
      clear hz
      clear hb
      refine hK.out _ _ (KEEP.out _ BB6.out) (fun hHeld => ?_)
      clear hK K
      (try simp only [Act.put, List.setIfInBounds_toArray, List.set_cons_zero, List.set_cons_succ])
      refine wpAnyH_take (i := 4) (oi := ?_) (v := ?_) ?_ (by kernel_rfl) (by decide +kernel) (by decide +kernel) (fun _ _ _ h => h) ?_ (by assumption) ?_
      rotate_left 2
      focus (simp only [List.getElem?_toArray, List.getElem?_cons_succ, List.getElem?_cons_zero] <;> rfl)
      · refine Or.inl ⟨by rfl, ?_⟩
        intro w hSw
        (try dsimp only at hSw)
        go_simp <;> with_reducible rfl
      (try simp only [Act.put, List.setIfInBounds_toArray, List.set_cons_zero, List.set_cons_succ])
      refine wpAnyH_take (i := 5) (oi := ?_) (v := ?_) ?_ (by kernel_rfl) (by decide +kernel) (by decide +kernel) (fun _ _ _ h => h) ?_ (by assumption) ?_
      rotate_left 2
      focus (simp only [List.getElem?_toArray, List.getElem?_cons_succ, List.getElem?_cons_zero] <;> rfl)
      · refine Or.inl ⟨by rfl, ?_⟩
        intro w hSw
        (try dsimp only at hSw)
        go_simp <;> with_reducible rfl
      (try simp only [Act.put, List.setIfInBounds_toArray, List.set_cons_zero, List.set_cons_succ])
      refine wpAnyH_take (i := 6) (oi := ?_) (v := ?_) ?_ (by kernel_rfl) (by decide +kernel) (by decide +kernel) (fun _ _ _ h => h) ?_ (by assumption) ?_
      rotate_left 2
      focus (simp only [List.getElem?_toArray, List.getElem?_cons_succ, List.getElem?_cons_zero] <;> rfl)
      · refine Or.inl ⟨by rfl, ?_⟩
        intro w hSw
        (try dsimp only at hSw)
        go_simp <;> with_reducible rfl
      (try simp only [Act.put, List.setIfInBounds_toArray, List.set_cons_zero, List.set_cons_succ])
      refine wpAnyH_ready (rs := [8]) (by decide +kernel) (by simp) ?_
      refine AllReadyH.cons rfl (fun K hK => ?_) AllReadyH.nil
      rw [if_pos (by rfl)]
      refine wp_storeX (.tmp 5) (.tmp 32) ga5 (ringC z ro) _ tyRing rfl (ringC_one _ _) HN_6.out rfl rfl rfl rfl ?_
      (try simp only [Act.put, List.setIfInBounds_toArray])
      obtain ⟨wz7, hwz⟩ : ∃ x, x = wz6.setRow ga5 (ringC z ro) := ⟨_, rfl⟩
      have BB7 := Lib.hid (show Below w3.heap.size w3 wz7 from by rw [hwz]; exact Below.setRowG BB6.out LEga5.out _)
      have HN_7 := Lib.hid (show Bx wz7 ga5 _ (ringC z ro) from by rw [hwz]; exact Bx.setRow HN_6.out _)
      have hq := KY_6.out.setRow (C' := (ringC z ro)) HN_6.out (no8_ring _ _)
      rw [← hwz] at hq
      have KY_7 := Lib.hid hq
      clear hq
      have hq := RZ_6.out.setRow (C' := (ringC z ro)) HN_6.out (no8_ring _ _)
      rw [← hwz] at hq
      have RZ_7 := Lib.hid hq
      clear hq
      rw [← hwz]
      clear hwz
      refine hK.out _ _ (KEEP.out _ BB7.out) (fun hHeld => ?_)
      clear hK K
      (try simp only [Act.put, List.setIfInBounds_toArray, List.set_cons_zero, List.set_cons_succ])
      refine wpAnyH_take (i := 9) (oi := ?_) (v := ?_) ?_ (by kernel_rfl) (by decide +kernel) (by decide +kernel) (fun _ _ _ h => h) ?_ (by assumption) ?_
      rotate_left 2
      focus (simp only [List.getElem?_toArray, List.getElem?_cons_succ, List.getElem?_cons_zero] <;> rfl)
      · refine Or.inl ⟨by rfl, ?_⟩
        intro w hSw
        (try dsimp only at hSw)
        go_simp <;> with_reducible rfl
      (try simp only [Act.put])
      refine wpAnyH_done (by decide +kernel) ?_ _
      refine NoPanic.normal ?_
      clear KEEP
      go_wp2_with fail
      go_meet
      case rel => exact ⟨rfl, ga5, z, rfl, HN_7.out, RZ_7.out, BB7.out, LEga5.out⟩
    refine AllReadyH.cons rfl (fun K hK => ?_) AllReadyH.nil
    go_simp
    obtain ⟨wz8, hwz⟩ : ∃ x, x = wz0.alloc (.cells #[.int .i64 0, .slice none 0 0, .int .i64 0, .slice none 0 0, .int .i64 0, .slice none 0 0, .int .i64 0, .int .i64 0] 26) := ⟨_, rfl⟩
    have hb : Below wz0.heap.size wz0 wz8 := by rw [hwz]; exact (Below.refl wz0.heap.size wz0).alloc (Nat.le_refl _) _
    have hx : Bx wz8 wz0.heap.size 26 (ringC wg0 rg0) := by rw [hwz]; exact Bx.new _ _ _
    have BB8 := Lib.hid (belG BB0.out hb BB0.out.size)
    rw [← hwz]
    obtain ⟨ga8, hga⟩ : ∃ g, g = wz0.heap.size := ⟨_, rfl⟩
    rw [← hga] at hx
    (try rw [← hga])
    have HN_8 := Lib.hid hx
    have LEga8 := Lib.hid (show w3.heap.size ≤ ga8 from by rw [hga]; exact BB0.out.size)
    clear hb hx hwz hga
    refine hK.out _ _ (KEEP.out _ BB8.out) (fun hHeld => ?_)
    clear hK K
    (try simp only [Act.put, List.setIfInBounds_toArray, List.set_cons_zero, List.set_cons_succ])
    refine wpAnyH_ready (rs := [2]) (by decide +kernel) (by simp) ?_
    refine AllReadyH.cons rfl (fun K hK => ?_) AllReadyH.nil
    go_simp
    go_at_call 29
    refine (Ekey.out 2 2 rfl _).mono ?_
    rintro e wz9 ⟨⟨yk, rfl, hk⟩, hb⟩
    have BB9 := Lib.hid (belG BB8.out hb BB8.out.size)
    have HN_9 := Lib.hid (Bx.go HN_8.out hb)
    have KY_9 := Lib.hid hk
    clear hk
    clear hb
    refine hK.out _ _ (KEEP.out _ BB9.out) (fun hHeld => ?_)
    clear hK K
    (try simp only [Act.put, List.setIfInBounds_toArray, List.set_cons_zero, List.set_cons_succ])
    refine wpAnyH_ready (rs := [3]) (by decide +kernel) (by simp) ?_
    refine AllReadyH.cons rfl (fun K hK => ?_) AllReadyH.nil
    go_simp
    go_at_call 21
    refine (COF.out _ yk (RG1.out.go BB9.out) KY_9.out).mono ?_
    rintro e wz10 ⟨⟨z, rfl, hz⟩, hb⟩
    have BB10 := Lib.hid (belG BB9.out hb BB9.out.size)
    have KY_10 := Lib.hid (KY_9.out.go hb)
    have HN_10 := Lib.hid (Bx.go HN_9.out hb)
    have RZ_10 := Lib.hid hz
    clear hz
    clear hb
    refine hK.out _ _ (KEEP.out _ BB10.out) (fun hHeld => ?_)
    clear hK K
    (try simp only [Act.put, List.setIfInBounds_toArray, List.set_cons_zero, List.set_cons_succ])
    refine wpAnyH_take (i := 4) (oi := ?_) (v := ?_) ?_ (by kernel_rfl) (by decide +kernel) (by decide +kernel) (fun _ _ _ h => h) ?_ (by assumption) ?_
    rotate_left 2
    focus (simp only [List.getElem?_toArray, List.getElem?_cons_succ, List.getElem?_cons_zero] <;> rfl)
    · refine Or.inl ⟨by rfl, ?_⟩
      intro w hSw
      (try dsimp only at hSw)
      go_simp <;> with_reducible rfl
    (try simp only [Act.put, List.setIfInBounds_toArray, List.set_cons_zero, List.set_cons_succ])
    refine wpAnyH_take (i := 5) (oi := ?_) (v := ?_) ?_ (by kernel_rfl) (by decide +kernel) (by decide +kernel) (fun _ _ _ h => h) ?_ (by assumption) ?_
    rotate_left 2
    focus (simp only [List.getElem?_toArray, List.getElem?_cons_succ, List.getElem?_cons_zero] <;> rfl)
    · refine Or.inl ⟨by rfl, ?_⟩
      intro w hSw
      (try dsimp only at hSw)
      go_simp <;> with_reducible rfl
    (try simp only [Act.put, List.setIfInBounds_toArray, List.set_cons_zero, List.set_cons_succ])
    refine wpAnyH_take (i := 6) (oi := ?_) (v := ?_) ?_ (by kernel_rfl) (by decide +kernel) (by decide +kernel) (fun _ _ _ h => h) ?_ (by assumption) ?_
    rotate_left 2
    focus (simp only [List.getElem?_toArray, List.getElem?_cons_succ, List.getElem?_cons_zero] <;> rfl)
    · refine Or.inl ⟨by rfl, ?_⟩
      intro w hSw
      (try dsimp only at hSw)
      go_simp <;> with_reducible rfl
    (try simp only [Act.put, List.setIfInBounds_toArray, List.set_cons_zero, List.set_cons_succ])
    refine wpAnyH_ready (rs := [8]) (by decide +kernel) (by simp) ?_
    refine AllReadyH.cons rfl (fun K hK => ?_) AllReadyH.nil
    rw [if_pos (by rfl)]
    refine wp_storeX (.tmp 5) (.tmp 32) ga8 (ringC z ro) _ tyRing rfl (ringC_one _ _) HN_10.out rfl rfl rfl rfl ?_
    (try simp only [Act.put, List.setIfInBounds_toArray])
    obtain ⟨wz11, hwz⟩ : ∃ x, x = wz10.setRow ga8 (ringC z ro) := ⟨_, rfl⟩
    have BB11 := Lib.hid (show Below w3.heap.size w3 wz11 from by rw [hwz]; exact Below.setRowG BB10.out LEga8.out _)
    have HN_11 := Lib.hid (show Bx wz11 ga8 _ (ringC z ro) from by rw [hwz]; exact Bx.setRow HN_10.out _)
    have hq := KY_10.out.setRow (C' := (ringC z ro)) HN_10.out (no8_ring _ _)
    rw [← hwz] at hq
    have KY_11 := Lib.hid hq
    clear hq
    have hq := RZ_10.out.setRow (C' := (ringC z ro)) HN_10.out (no8_ring _ _)
    rw [← hwz] at hq
    have RZ_11 := Lib.hid hq
    clear hq
    rw [← hwz]
    clear hwz
    refine hK.out _ _ (KEEP.out _ BB11.out) (fun hHeld => ?_)
    clear hK K
    (try simp only [Act.put, List.setIfInBounds_toArray, List.set_cons_zero, List.set_cons_succ])
    refine wpAnyH_take (i := 9) (oi := ?_) (v := ?_) ?_ (by kernel_rfl) (by decide +kernel) (by decide +kernel) (fun _ _ _ h => h) ?_ (by assumption) ?_
    rotate_left 2
    focus (simp only [List.getElem?_toArray, List.getElem?_cons_succ, List.getElem?_cons_zero] <;> rfl)
    · refine Or.inl ⟨by rfl, ?_⟩
      intro w hSw
      (try dsimp only at hSw)
      go_simp <;> with_reducible rfl
    (try simp only [Act.put])
    refine wpAnyH_done (by decide +kernel) ?_ _
    refine NoPanic.normal ?_
    clear KEEP
    go_wp2_with fail
    go_meet
    case rel => exact ⟨rfl, ga8, z, rfl, HN_11.out, RZ_11.out, BB11.out, LEga8.out⟩
  case rest =>
  obtain ⟨rfl, g5, z4, rfl, hg, hr, hb, hge⟩ := hcut
  obtain ⟨w4, hw⟩ : ∃ x, x = wc := ⟨_, rfl⟩
  rw [← hw] at hg hr hb ⊢
  clear hw
  have nHB := Lib.hid (belG HB.out hb HB.out.size)
  have NEG1G5 := Lib.hid (show g1 ≠ g5 from by have h1 := Bx.lt G1.out; omega)
  have NEG5G1 := Lib.hid (NEG1G5.out.symm)
  have LEG5 := Lib.hid (show W.heap.size ≤ g5 from by have h1 := HB.out.size; omega)
  have nRG1 := Lib.hid (RG1.out.go hb)
  have nG1 := Lib.hid (oldG G1.out hb (Nat.le_refl _))
  have G5 := Lib.hid hg
  have RG5 := Lib.hid hr
  clear hb hg hr hge
  clear HB RG1 G1
  have HB := nHB
  have RG1 := nRG1
  have G1 := nG1
  clear nHB nRG1 nG1
  go_wp2_with (refine loadX (.tmp 5) g5 (ringC z4 ro) tyRing rfl G5.out rfl rfl rfl ?_)
  refine (Eturn.out z4 _ RG5.out).mono ?_
  rintro e w5 ⟨⟨x7, rfl, hr⟩, hb⟩
  have nHB := Lib.hid (belG HB.out hb HB.out.size)
  have nRG1 := Lib.hid (RG1.out.go hb)
  have nRG5 := Lib.hid (RG5.out.go hb)
  have nG1 := Lib.hid (oldG G1.out hb (Nat.le_refl _))
  have nG5 := Lib.hid (oldG G5.out hb (Nat.le_refl _))
  clear hb
  clear HB RG1 RG5 G1 G5
  have HB := nHB
  have RG1 := nRG1
  have RG5 := nRG5
  have G1 := nG1
  have G5 := nG5
  clear nHB nRG1 nRG5 nG1 nG5
  have RG7 := Lib.hid hr
  clear hr
  have LB := Lib.hid HB.out.size
  have LTG1 := Lib.hid (show g1 < w5.heap.size from Bx.lt G1.out)
  have LTG5 := Lib.hid (show g5 < w5.heap.size from Bx.lt G5.out)
  obtain ⟨V5, hV5⟩ : ∃ V, V = w5.alloc (.cells (ringC x7 (rx 0)) 26) := ⟨_, rfl⟩
  have ha := (Below.refl w5.heap.size w5).alloc (Nat.le_refl _) (.cells (ringC x7 (rx 0)) 26)
  have hg := heap_alloc_new w5 (.cells (ringC x7 (rx 0)) 26)
  have nHB := Lib.hid (HB.out.alloc HB.out.size (.cells (ringC x7 (rx 0)) 26))
  rw [← hV5] at ha hg nHB
  have nRG1 := Lib.hid (RG1.out.go ha)
  have nRG5 := Lib.hid (RG5.out.go ha)
  have nRG7 := Lib.hid (RG7.out.go ha)
  have nG1 := Lib.hid (oldG G1.out ha (Nat.le_refl _))
  have nG5 := Lib.hid (oldG G5.out ha (Nat.le_refl _))
  obtain ⟨g7, hg7⟩ : ∃ g, g = w5.heap.size := ⟨_, rfl⟩
  rw [← hg7] at hg
  have HXG7 := Lib.hid hg7
  have G7 := Lib.hid hg
  have HV := Lib.hid hV5
  clear ha hg hV5 hg7
  clear HB RG1 RG5 RG7 G1 G5
  have HB := nHB
  have RG1 := nRG1
  have RG5 := nRG5
  have RG7 := nRG7
  have G1 := nG1
  have G5 := nG5
  clear nHB nRG1 nRG5 nRG7 nG1 nG5
  have LEG7 := Lib.hid (show W.heap.size ≤ g7 from by rw [HXG7.out]; exact LB.out)
  have NEG1G7 := Lib.hid (show g1 ≠ g7 from by have h1 := LTG1.out; rw [HXG7.out]; omega)
  have NEG7G1 := Lib.hid (NEG1G7.out.symm)
  have NEG5G7 := Lib.hid (show g5 ≠ g7 from by have h1 := LTG5.out; rw [HXG7.out]; omega)
  have NEG7G5 := Lib.hid (NEG5G7.out.symm)
  clear LB LTG1 LTG5
  go_upto_region 5 with (refine storeX (.tmp 7) (.tmp 37) _ (ringC x7 (rx 0)) _ tyRing rfl (ringC_one _ _) (heap_alloc_new _ _) rfl rfl rfl rfl rfl ?_; rw [setRowG_fold])
  rw [← HV.out]
  (try rw [← HXG7.out])
  clear HV HXG7
  have OG7 := G7
  have LB := Lib.hid HB.out.size
  have LTG1 := Lib.hid (show g1 < V5.heap.size from Bx.lt G1.out)
  have LTG5 := Lib.hid (show g5 < V5.heap.size from Bx.lt G5.out)
  have LTG7 := Lib.hid (show g7 < V5.heap.size from Bx.lt G7.out)
  obtain ⟨V6, hV6⟩ : ∃ V, V = V5.alloc (.cells (ringC x7 (rx 0)) 26) := ⟨_, rfl⟩
  have ha := (Below.refl V5.heap.size V5).alloc (Nat.le_refl _) (.cells (ringC x7 (rx 0)) 26)
  have hg := heap_alloc_new V5 (.cells (ringC x7 (rx 0)) 26)
  have nHB := Lib.hid (HB.out.alloc HB.out.size (.cells (ringC x7 (rx 0)) 26))
  rw [← hV6] at ha hg nHB
  have nRG1 := Lib.hid (RG1.out.go ha)
  have nRG5 := Lib.hid (RG5.out.go ha)
  have nRG7 := Lib.hid (RG7.out.go ha)
  have nG1 := Lib.hid (oldG G1.out ha (Nat.le_refl _))
  have nG5 := Lib.hid (oldG G5.out ha (Nat.le_refl _))
  have nG7 := Lib.hid (oldG G7.out ha (Nat.le_refl _))
  obtain ⟨g9, hg9⟩ : ∃ g, g = V5.heap.size := ⟨_, rfl⟩
  rw [← hg9] at hg
  have HXG9 := Lib.hid hg9
  have G9 := Lib.hid hg
  have HV := Lib.hid hV6
  clear ha hg hV6 hg9
  clear HB RG1 RG5 RG7 G1 G5 G7
  have HB := nHB
  have RG1 := nRG1
  have RG5 := nRG5
  have RG7 := nRG7
  have G1 := nG1
  have G5 := nG5
  have G7 := nG7
  clear nHB nRG1 nRG5 nRG7 nG1 nG5 nG7
  have LEG9 := Lib.hid (show W.heap.size ≤ g9 from by rw [HXG9.out]; exact LB.out)
  have NEG1G9 := Lib.hid (show g1 ≠ g9 from by have h1 := LTG1.out; rw [HXG9.out]; omega)
  have NEG9G1 := Lib.hid (NEG1G9.out.symm)
  have NEG5G9 := Lib.hid (show g5 ≠ g9 from by have h1 := LTG5.out; rw [HXG9.out]; omega)
  have NEG9G5 := Lib.hid (NEG5G9.out.symm)
  have NEG7G9 := Lib.hid (show g7 ≠ g9 from by have h1 := LTG7.out; rw [HXG9.out]; omega)
  have NEG9G7 := Lib.hid (NEG7G9.out.symm)
  clear LB LTG1 LTG5 LTG7
  go_upto_region 6 with (first | (refine loadX (.tmp 7) g7 (ringC x7 (rx 0)) tyRing rfl OG7.out rfl rfl rfl ?_) | (refine storeX (.tmp 9) (.tmp 39) _ (ringC x7 (rx 0)) _ tyRing rfl (ringC_one _ _) (heap_alloc_new _ _) rfl rfl rfl rfl rfl ?_; rw [setRowG_fold]))
  rw [← HV.out]
  (try rw [← HXG9.out])
  clear HV HXG9
  clear OG7
  go_wp2_with fail
  go_loopw [10] (fun i wr => ∃ (k : Nat) (y : Wg), k ≤ 15 ∧ i = .int .i64 k ∧ Hid (BxR wr g9 y (rx k)) ∧ Hid (RingR wr y (rx k)) ∧ Hid (Bx wr g1 26 (ringC x1 ra)) ∧ Hid (Bx wr g5 26 (ringC z4 ro)) ∧ Hid (Bx wr g7 26 (ringC x7 (rx 0))) ∧ Hid (RingR wr x1 ra) ∧ Hid (RingR wr z4 ro) ∧ Hid (RingR wr x7 (rx 0)) ∧ Hid (Below W.heap.size W wr)) (fun i _ => 15 - (intOf i).toNat)
  case atStart => exact ⟨0, x7, by omega, rfl, G9, RG7, G1, G5, G7, RG1, RG5, RG7, HB⟩
  case round =>
  clear G1 G5 G7 G9 RG1 RG5 RG7 HB
  obtain ⟨k, y, hk, rfl, G9, RG9, G1, G5, G7, RG1, RG5, RG7, HB⟩ := hrel
  by_cases hlt : k < 15
  · have hki : (k : Int) < 15 := by omega
    go_wp2_with (refine loadX (.tmp 9) g9 (ringC y (rx k)) tyRing rfl G9.out rfl rfl rfl ?_)
    refine (Etick.out k hlt y _ RG9.out).mono ?_
    rintro e w7 ⟨⟨z, rfl, hr⟩, hb⟩
    have nHB := Lib.hid (belG HB.out hb HB.out.size)
    have nRG1 := Lib.hid (RG1.out.go hb)
    have nRG5 := Lib.hid (RG5.out.go hb)
    have nRG7 := Lib.hid (RG7.out.go hb)
    have nRG9 := Lib.hid (RG9.out.go hb)
    have nG1 := Lib.hid (oldG G1.out hb (Nat.le_refl _))
    have nG5 := Lib.hid (oldG G5.out hb (Nat.le_refl _))
    have nG7 := Lib.hid (oldG G7.out hb (Nat.le_refl _))
    have nG9 := Lib.hid (oldG G9.out hb (Nat.le_refl _))
    clear hb
    clear HB RG1 RG5 RG7 RG9 G1 G5 G7 G9
    have HB := nHB
    have RG1 := nRG1
    have RG5 := nRG5
    have RG7 := nRG7
    have RG9 := nRG9
    have G1 := nG1
    have G5 := nG5
    have G7 := nG7
    have G9 := nG9
    clear nHB nRG1 nRG5 nRG7 nRG9 nG1 nG5 nG7 nG9
    have RZ := Lib.hid hr
    clear hr
    clear RG9
    go_upto_region 8 with (refine storeX (.tmp 9) (.tmp 45) g9 (ringC z (rx (k + 1))) _ tyRing rfl (ringC_one _ _) G9.out rfl rfl rfl rfl rfl ?_)
    obtain ⟨V8, hV8⟩ : ∃ V, V = w7.setRow g9 (ringC z (rx (k + 1))) := ⟨_, rfl⟩
    have nHB := Lib.hid (show Below W.heap.size W V8 by rw [hV8]; exact Below.setRowG HB.out LEG9.out _)
    have hq := RG1.out.setRow (C' := (ringC z (rx (k + 1)))) G9.out (no8_ring _ _)
    rw [← hV8] at hq
    have nRG1 := Lib.hid hq
    clear hq
    have hq := RG5.out.setRow (C' := (ringC z (rx (k + 1)))) G9.out (no8_ring _ _)
    rw [← hV8] at hq
    have nRG5 := Lib.hid hq
    clear hq
    have hq := RG7.out.setRow (C' := (ringC z (rx (k + 1)))) G9.out (no8_ring _ _)
    rw [← hV8] at hq
    have nRG7 := Lib.hid hq
    clear hq
    have hq := RZ.out.setRow (C' := (ringC z (rx (k + 1)))) G9.out (no8_ring _ _)
    rw [← hV8] at hq
    have nRZ := Lib.hid hq
    clear hq
    have nG1 := Lib.hid (show Bx V8 g1 26 (ringC x1 ra) from by rw [hV8]; exact Bx.setRowOther G1.out NEG1G9.out _)
    have nG5 := Lib.hid (show Bx V8 g5 26 (ringC z4 ro) from by rw [hV8]; exact Bx.setRowOther G5.out NEG5G9.out _)
    have nG7 := Lib.hid (show Bx V8 g7 26 (ringC x7 (rx 0)) from by rw [hV8]; exact Bx.setRowOther G7.out NEG7G9.out _)
    have nG9 := Lib.hid (show Bx V8 g9 26 (ringC z (rx (k + 1))) from by rw [hV8]; exact Bx.setRow G9.out _)
    rw [← hV8]
    clear hV8
    clear HB RG1 RG5 RG7 RZ G1 G5 G7 G9
    have HB := nHB
    have RG1 := nRG1
    have RG5 := nRG5
    have RG7 := nRG7
    have RZ := nRZ
    have G1 := nG1
    have G5 := nG5
    have G7 := nG7
    have G9 := nG9
    clear nHB nRG1 nRG5 nRG7 nRZ nG1 nG5 nG7 nG9
    go_wp2_with fail
    go_roundw
    case rel => exact ⟨k + 1, z, by omega, by go_num, G9, RZ, G1, G5, G7, RG1, RG5, RG7, HB⟩
    case measure => simp [intOf]; omega
  · have hki : ¬ (k : Int) < 15 := by omega
    obtain rfl : k = 15 := by omega
    go_wp2_with (refine loadX (.tmp 9) g9 (ringC y (rx 15)) tyRing rfl G9.out rfl rfl rfl ?_)
    refine (Ef1.out y _ RG9.out).mono ?_
    rintro e w7 ⟨⟨f1, rfl, hk⟩, hb⟩
    have nHB := Lib.hid (belG HB.out hb HB.out.size)
    have nRG1 := Lib.hid (RG1.out.go hb)
    have nRG5 := Lib.hid (RG5.out.go hb)
    have nRG7 := Lib.hid (RG7.out.go hb)
    have nRG9 := Lib.hid (RG9.out.go hb)
    have nG1 := Lib.hid (oldG G1.out hb (Nat.le_refl _))
    have nG5 := Lib.hid (oldG G5.out hb (Nat.le_refl _))
    have nG7 := Lib.hid (oldG G7.out hb (Nat.le_refl _))
    have nG9 := Lib.hid (oldG G9.out hb (Nat.le_refl _))
    clear hb
    clear HB RG1 RG5 RG7 RG9 G1 G5 G7 G9
    have HB := nHB
    have RG1 := nRG1
    have RG5 := nRG5
    have RG7 := nRG7
    have RG9 := nRG9
    have G1 := nG1
    have G5 := nG5
    have G7 := nG7
    have G9 := nG9
    clear nHB nRG1 nRG5 nRG7 nRG9 nG1 nG5 nG7 nG9
    have RF1 := Lib.hid hk
    clear hk
    go_wp2_with (refine loadX (.tmp 9) g9 (ringC y (rx 15)) tyRing rfl G9.out rfl rfl rfl ?_)
    refine (Elate.out y _ RG9.out).mono ?_
    rintro e w8 ⟨⟨xl, rfl, hk⟩, hb⟩
    have nHB := Lib.hid (belG HB.out hb HB.out.size)
    have nRG1 := Lib.hid (RG1.out.go hb)
    have nRG5 := Lib.hid (RG5.out.go hb)
    have nRG7 := Lib.hid (RG7.out.go hb)
    have nRG9 := Lib.hid (RG9.out.go hb)
    have nRF1 := Lib.hid (RF1.out.go hb)
    have nG1 := Lib.hid (oldG G1.out hb (Nat.le_refl _))
    have nG5 := Lib.hid (oldG G5.out hb (Nat.le_refl _))
    have nG7 := Lib.hid (oldG G7.out hb (Nat.le_refl _))
    have nG9 := Lib.hid (oldG G9.out hb (Nat.le_refl _))
    clear hb
    clear HB RG1 RG5 RG7 RG9 RF1 G1 G5 G7 G9
    have HB := nHB
    have RG1 := nRG1
    have RG5 := nRG5
    have RG7 := nRG7
    have RG9 := nRG9
    have RF1 := nRF1
    have G1 := nG1
    have G5 := nG5
    have G7 := nG7
    have G9 := nG9
    clear nHB nRG1 nRG5 nRG7 nRG9 nRF1 nG1 nG5 nG7 nG9
    have RL := Lib.hid hk
    clear hk
    go_wp2_with fail
    refine (Ef3.out xl _ RL.out).mono ?_
    rintro e w9 ⟨⟨f3, rfl⟩, hb⟩
    have nHB := Lib.hid (belG HB.out hb HB.out.size)
    have nRG1 := Lib.hid (RG1.out.go hb)
    have nRG5 := Lib.hid (RG5.out.go hb)
    have nRG7 := Lib.hid (RG7.out.go hb)
    have nRG9 := Lib.hid (RG9.out.go hb)
    have nRF1 := Lib.hid (RF1.out.go hb)
    have nRL := Lib.hid (RL.out.go hb)
    have nG1 := Lib.hid (oldG G1.out hb (Nat.le_refl _))
    have nG5 := Lib.hid (oldG G5.out hb (Nat.le_refl _))
    have nG7 := Lib.hid (oldG G7.out hb (Nat.le_refl _))
    have nG9 := Lib.hid (oldG G9.out hb (Nat.le_refl _))
    clear hb
    clear HB RG1 RG5 RG7 RG9 RF1 RL G1 G5 G7 G9
    have HB := nHB
    have RG1 := nRG1
    have RG5 := nRG5
    have RG7 := nRG7
    have RG9 := nRG9
    have RF1 := nRF1
    have RL := nRL
    have G1 := nG1
    have G5 := nG5
    have G7 := nG7
    have G9 := nG9
    clear nHB nRG1 nRG5 nRG7 nRG9 nRF1 nRL nG1 nG5 nG7 nG9
    clear RL
    go_wp2_with (refine loadX (.tmp 9) g9 (ringC y (rx 15)) tyRing rfl G9.out rfl rfl rfl ?_)
    refine (Ef2.out y _ RG9.out).mono ?_
    rintro e w10 ⟨⟨f2, rfl, hk⟩, hb⟩
    have nHB := Lib.hid (belG HB.out hb HB.out.size)
    have nRG1 := Lib.hid (RG1.out.go hb)
    have nRG5 := Lib.hid (RG5.out.go hb)
    have nRG7 := Lib.hid (RG7.out.go hb)
    have nRG9 := Lib.hid (RG9.out.go hb)
    have nRF1 := Lib.hid (RF1.out.go hb)
    have nG1 := Lib.hid (oldG G1.out hb (Nat.le_refl _))
    have nG5 := Lib.hid (oldG G5.out hb (Nat.le_refl _))
    have nG7 := Lib.hid (oldG G7.out hb (Nat.le_refl _))
    have nG9 := Lib.hid (oldG G9.out hb (Nat.le_refl _))
    clear hb
    clear HB RG1 RG5 RG7 RG9 RF1 G1 G5 G7 G9
    have HB := nHB
    have RG1 := nRG1
    have RG5 := nRG5
    have RG7 := nRG7
    have RG9 := nRG9
    have RF1 := nRF1
    have G1 := nG1
    have G5 := nG5
    have G7 := nG7
    have G9 := nG9
    clear nHB nRG1 nRG5 nRG7 nRG9 nRF1 nG1 nG5 nG7 nG9
    have RF2 := Lib.hid hk
    clear hk
    go_upto_region 13 with fail
    have BB0 := Lib.hid ((Below.refl w10.heap.size w10).drew)
    have KEEP := Lib.hid (fun w' (hW : Below w10.heap.size w10 w') => (show Below w10.heap.size w10 w' from hW))
    refine wp_region_noPanic ?_
    refine wp_region_held_drew (S := fun w' => Below w10.heap.size w10 w') (by kernel_rfl) (KEEP.out _ BB0.out) (fun hHeld => ?_)
    obtain ⟨wz0, hwz⟩ : ∃ x, x = w10.drew := ⟨_, rfl⟩
    rw [← hwz] at BB0 hHeld ⊢
    clear hwz
    refine wpAnyH_take (i := 0) (oi := ?_) (v := ?_) ?_ (by kernel_rfl) (by decide +kernel) (by decide +kernel) (fun _ _ _ h => h) ?_ (by assumption) ?_
    rotate_left 2
    focus (simp only [List.getElem?_toArray, List.getElem?_cons_zero] <;> rfl)
    · refine Or.inl ⟨by rfl, ?_⟩
      intro w hSw
      (try dsimp only at hSw)
      go_simp <;> with_reducible rfl
    (try simp only [Act.put, List.setIfInBounds_toArray, List.set_cons_zero, List.set_cons_succ])
    refine wpAnyH_take (i := 1) (oi := ?_) (v := ?_) ?_ (by kernel_rfl) (by decide +kernel) (by decide +kernel) (fun _ _ _ h => h) ?_ (by assumption) ?_
    rotate_left 2
    focus (simp only [List.getElem?_toArray, List.getElem?_cons_succ, List.getElem?_cons_zero] <;> rfl)
    · refine Or.inl ⟨by rfl, ?_⟩
      intro w hSw
      (try dsimp only at hSw)
      go_simp <;> with_reducible rfl
    (try simp only [Act.put, List.setIfInBounds_toArray, List.set_cons_zero, List.set_cons_succ])
    refine wpAnyH_take (i := 2) (oi := ?_) (v := ?_) ?_ (by kernel_rfl) (by decide +kernel) (by decide +kernel) (fun _ _ _ h => h) ?_ (by assumption) ?_
    rotate_left 2
    focus (simp only [List.getElem?_toArray, List.getElem?_cons_succ, List.getElem?_cons_zero] <;> rfl)
    · refine Or.inl ⟨by rfl, ?_⟩
      intro w hSw
      (try dsimp only at hSw)
      go_simp <;> with_reducible rfl
    (try simp only [Act.put, List.setIfInBounds_toArray, List.set_cons_zero, List.set_cons_succ])
    refine wpAnyH_take (i := 3) (oi := ?_) (v := ?_) ?_ (by kernel_rfl) (by decide +kernel) (by decide +kernel) (fun _ _ _ h => h) ?_ (by assumption) ?_
    rotate_left 2
    focus (simp only [List.getElem?_toArray, List.getElem?_cons_succ, List.getElem?_cons_zero] <;> rfl)
    · refine Or.inl ⟨by rfl, ?_⟩
      intro w hSw
      (try dsimp only at hSw)
      go_simp <;> with_reducible rfl
    (try simp only [Act.put, List.setIfInBounds_toArray, List.set_cons_zero, List.set_cons_succ])
    refine wpAnyH_take (i := 4) (oi := ?_) (v := ?_) ?_ (by kernel_rfl) (by decide +kernel) (by decide +kernel) (fun _ _ _ h => h) ?_ (by assumption) ?_
    rotate_left 2
    focus (simp only [List.getElem?_toArray, List.getElem?_cons_succ, List.getElem?_cons_zero] <;> rfl)
    · refine Or.inl ⟨by rfl, ?_⟩
      intro w hSw
      (try dsimp only at hSw)
      go_simp <;> with_reducible rfl
    (try simp only [Act.put, List.setIfInBounds_toArray, List.set_cons_zero, List.set_cons_succ])
    refine wpAnyH_take (i := 5) (oi := ?_) (v := ?_) ?_ (by kernel_rfl) (by decide +kernel) (by decide +kernel) (fun _ _ _ h => h) ?_ (by assumption) ?_
    rotate_left 2
    focus (simp only [List.getElem?_toArray, List.getElem?_cons_succ, List.getElem?_cons_zero] <;> rfl)
    · refine Or.inl ⟨by rfl, ?_⟩
      intro w hSw
      (try dsimp only at hSw)
      go_simp <;> with_reducible rfl
    (try simp only [Act.put, List.setIfInBounds_toArray, List.set_cons_zero, List.set_cons_succ])
    refine wpAnyH_take (i := 6) (oi := ?_) (v := ?_) ?_ (by kernel_rfl) (by decide +kernel) (by decide +kernel) (fun _ _ _ h => h) ?_ (by assumption) ?_
    rotate_left 2
    focus (simp only [List.getElem?_toArray, List.getElem?_cons_succ, List.getElem?_cons_zero] <;> rfl)
    · refine Or.inl ⟨by rfl, ?_⟩
      intro w hSw
      (try dsimp only at hSw)
      go_simp <;> with_reducible rfl
    (try simp only [Act.put, List.setIfInBounds_toArray, List.set_cons_zero, List.set_cons_succ])
    refine wpAnyH_take (i := 7) (oi := ?_) (v := ?_) ?_ (by kernel_rfl) (by decide +kernel) (by decide +kernel) (fun _ _ _ h => h) ?_ (by assumption) ?_
    rotate_left 2
    focus (simp only [List.getElem?_toArray, List.getElem?_cons_succ, List.getElem?_cons_zero] <;> rfl)
    · refine Or.inl ⟨by rfl, ?_⟩
      intro w hSw
      (try dsimp only at hSw)
      go_simp <;> with_reducible rfl
    (try simp only [Act.put, List.setIfInBounds_toArray, List.set_cons_zero, List.set_cons_succ])
    refine wpAnyH_take (i := 8) (oi := ?_) (v := ?_) ?_ (by kernel_rfl) (by decide +kernel) (by decide +kernel) (fun _ _ _ h => h) ?_ (by assumption) ?_
    rotate_left 2
    focus (simp only [List.getElem?_toArray, List.getElem?_cons_succ, List.getElem?_cons_zero] <;> rfl)
    · refine Or.inl ⟨by rfl, ?_⟩
      intro w hSw
      (try dsimp only at hSw)
      go_simp <;> with_reducible rfl
    (try simp only [Act.put, List.setIfInBounds_toArray, List.set_cons_zero, List.set_cons_succ])
    refine wpAnyH_take (i := 9) (oi := ?_) (v := ?_) ?_ (by kernel_rfl) (by decide +kernel) (by decide +kernel) (fun _ _ _ h => h) ?_ (by assumption) ?_
    rotate_left 2
    focus (simp only [List.getElem?_toArray, List.getElem?_cons_succ, List.getElem?_cons_zero] <;> rfl)
    · refine Or.inl ⟨by rfl, ?_⟩
      intro w hSw
      (try dsimp only at hSw)
      go_simp <;> with_reducible rfl
    (try simp only [Act.put, List.setIfInBounds_toArray, List.set_cons_zero, List.set_cons_succ])
    refine wpAnyH_take (i := 10) (oi := ?_) (v := ?_) ?_ (by kernel_rfl) (by decide +kernel) (by decide +kernel) (fun _ _ _ h => h) ?_ (by assumption) ?_
    rotate_left 2
    focus (simp only [List.getElem?_toArray, List.getElem?_cons_succ, List.getElem?_cons_zero] <;> rfl)
    · refine Or.inl ⟨by rfl, ?_⟩
      intro w hSw
      (try dsimp only at hSw)
      go_simp <;> with_reducible rfl
    (try simp only [Act.put, List.setIfInBounds_toArray, List.set_cons_zero, List.set_cons_succ])
    refine wpAnyH_take (i := 11) (oi := ?_) (v := ?_) ?_ (by kernel_rfl) (by decide +kernel) (by decide +kernel) (fun _ _ _ h => h) ?_ (by assumption) ?_
    rotate_left 2
    focus (simp only [List.getElem?_toArray, List.getElem?_cons_succ, List.getElem?_cons_zero] <;> rfl)
    · refine Or.inl ⟨by rfl, ?_⟩
      intro w hSw
      (try dsimp only at hSw)
      go_simp <;> with_reducible rfl
    (try simp only [Act.put, List.setIfInBounds_toArray, List.set_cons_zero, List.set_cons_succ])
    refine wpAnyH_take (i := 12) (oi := ?_) (v := ?_) ?_ (by kernel_rfl) (by decide +kernel) (by decide +kernel) (fun _ _ _ h => h) ?_ (by assumption) ?_
    rotate_left 2
    focus (simp only [List.getElem?_toArray, List.getElem?_cons_succ, List.getElem?_cons_zero] <;> rfl)
    · refine Or.inl ⟨by rfl, ?_⟩
      intro w hSw
      (try dsimp only at hSw)
      go_simp <;> with_reducible rfl
    (try simp only [Act.put, List.setIfInBounds_toArray, List.set_cons_zero, List.set_cons_succ])
    refine wpAnyH_take (i := 13) (oi := ?_) (v := ?_) ?_ (by kernel_rfl) (by decide +kernel) (by decide +kernel) (fun _ _ _ h => h) ?_ (by assumption) ?_
    rotate_left 2
    focus (simp only [List.getElem?_toArray, List.getElem?_cons_succ, List.getElem?_cons_zero] <;> rfl)
    · refine Or.inl ⟨by rfl, ?_⟩
      intro w hSw
      (try dsimp only at hSw)
      go_simp <;> with_reducible rfl
    (try simp only [Act.put, List.setIfInBounds_toArray, List.set_cons_zero, List.set_cons_succ])
    refine wpAnyH_take (i := 14) (oi := ?_) (v := ?_) ?_ (by kernel_rfl) (by decide +kernel) (by decide +kernel) (fun _ _ _ h => h) ?_ (by assumption) ?_
    rotate_left 2
    focus (simp only [List.getElem?_toArray, List.getElem?_cons_succ, List.getElem?_cons_zero] <;> rfl)
    · refine Or.inl ⟨by rfl, ?_⟩
      intro w hSw
      (try dsimp only at hSw)
      go_simp <;> with_reducible rfl
    (try simp only [Act.put, List.setIfInBounds_toArray, List.set_cons_zero, List.set_cons_succ])
    refine wpAnyH_take (i := 15) (oi := ?_) (v := ?_) ?_ (by kernel_rfl) (by decide +kernel) (by decide +kernel) (fun _ _ _ h => h) ?_ (by assumption) ?_
    rotate_left 2
    focus (simp only [List.getElem?_toArray, List.getElem?_cons_succ, List.getElem?_cons_zero] <;> rfl)
    · refine Or.inl ⟨by rfl, ?_⟩
      intro w hSw
      (try dsimp only at hSw)
      go_simp <;> with_reducible rfl
    (try simp only [Act.put, List.setIfInBounds_toArray, List.set_cons_zero, List.set_cons_succ])
    refine wpAnyH_take (i := 16) (oi := ?_) (v := ?_) ?_ (by kernel_rfl) (by decide +kernel) (by decide +kernel) (fun _ _ _ h => h) ?_ (by assumption) ?_
    rotate_left 2
    focus (simp only [List.getElem?_toArray, List.getElem?_cons_succ, List.getElem?_cons_zero] <;> rfl)
    · refine Or.inl ⟨by rfl, ?_⟩
      intro w hSw
      (try dsimp only at hSw)
      go_simp <;> with_reducible rfl
    (try simp only [Act.put, List.setIfInBounds_toArray, List.set_cons_zero, List.set_cons_succ])
    refine wpAnyH_take (i := 17) (oi := ?_) (v := ?_) ?_ (by kernel_rfl) (by decide +kernel) (by decide +kernel) (fun _ _ _ h => h) ?_ (by assumption) ?_
    rotate_left 2
    focus (simp only [List.getElem?_toArray, List.getElem?_cons_succ, List.getElem?_cons_zero] <;> rfl)
    · refine Or.inl ⟨by rfl, ?_⟩
      intro w hSw
      (try dsimp only at hSw)
      go_simp <;> with_reducible rfl
    (try simp only [Act.put, List.setIfInBounds_toArray, List.set_cons_zero, List.set_cons_succ])
    refine wpAnyH_take (i := 18) (oi := ?_) (v := ?_) ?_ (by kernel_rfl) (by decide +kernel) (by decide +kernel) (fun _ _ _ h => h) ?_ (by assumption) ?_
    rotate_left 2
    focus (simp only [List.getElem?_toArray, List.getElem?_cons_succ, List.getElem?_cons_zero] <;> rfl)
    · refine Or.inl ⟨by rfl, ?_⟩
      intro w hSw
      (try dsimp only at hSw)
      go_simp <;> with_reducible rfl
    (try simp only [Act.put, List.setIfInBounds_toArray, List.set_cons_zero, List.set_cons_succ])
    refine wpAnyH_take (i := 19) (oi := ?_) (v := ?_) ?_ (by kernel_rfl) (by decide +kernel) (by decide +kernel) (fun _ _ _ h => h) ?_ (by assumption) ?_
    rotate_left 2
    focus (simp only [List.getElem?_toArray, List.getElem?_cons_succ, List.getElem?_cons_zero] <;> rfl)
    · refine Or.inl ⟨by rfl, ?_⟩
      intro w hSw
      (try dsimp only at hSw)
      go_simp <;> with_reducible rfl
    (try simp only [Act.put, List.setIfInBounds_toArray, List.set_cons_zero, List.set_cons_succ])
    refine wpAnyH_take (i := 20) (oi := ?_) (v := ?_) ?_ (by kernel_rfl) (by decide +kernel) (by decide +kernel) (fun _ _ _ h => h) ?_ (by assumption) ?_
    rotate_left 2
    focus (simp only [List.getElem?_toArray, List.getElem?_cons_succ, List.getElem?_cons_zero] <;> rfl)
    · refine Or.inl ⟨by rfl, ?_⟩
      intro w hSw
      (try dsimp only at hSw)
      go_simp <;> with_reducible rfl
    (try simp only [Act.put, List.setIfInBounds_toArray, List.set_cons_zero, List.set_cons_succ])
    refine wpAnyH_take (i := 21) (oi := ?_) (v := ?_) ?_ (by kernel_rfl) (by decide +kernel) (by decide +kernel) (fun _ _ _ h => h) ?_ (by assumption) ?_
    rotate_left 2
    focus (simp only [List.getElem?_toArray, List.getElem?_cons_succ, List.getElem?_cons_zero] <;> rfl)
    · refine Or.inl ⟨by rfl, ?_⟩
      intro w hSw
      (try dsimp only at hSw)
      go_simp <;> with_reducible rfl
    (try simp only [Act.put, List.setIfInBounds_toArray, List.set_cons_zero, List.set_cons_succ])
    refine wpAnyH_take (i := 22) (oi := ?_) (v := ?_) ?_ (by kernel_rfl) (by decide +kernel) (by decide +kernel) (fun _ _ _ h => h) ?_ (by assumption) ?_
    rotate_left 2
    focus (simp only [List.getElem?_toArray, List.getElem?_cons_succ, List.getElem?_cons_zero] <;> rfl)
    · refine Or.inl ⟨by rfl, ?_⟩
      intro w hSw
      (try dsimp only at hSw)
      go_simp <;> with_reducible rfl
    (try simp only [Act.put, List.setIfInBounds_toArray, List.set_cons_zero, List.set_cons_succ])
    refine wpAnyH_ready (rs := [23]) (by decide +kernel) (by simp) ?_
    refine AllReadyH.cons rfl (fun K hK => ?_) AllReadyH.nil
    go_simp
    go_at_call 29
    refine (Ekey.out 1 1 rfl _).mono ?_
    rintro e wz1 ⟨⟨y5, rfl, hk⟩, hb⟩
    have BB1 := Lib.hid (belG BB0.out hb BB0.out.size)
    have KY_1 := Lib.hid hk
    clear hk
    clear hb
    refine hK.out _ _ (KEEP.out _ BB1.out) (fun hHeld => ?_)
    clear hK K
    (try simp only [Act.put, List.setIfInBounds_toArray, List.set_cons_zero, List.set_cons_succ])
    refine wpAnyH_ready (rs := [24]) (by decide +kernel) (by simp) ?_
    refine AllReadyH.cons rfl (fun K hK => ?_) AllReadyH.nil
    go_simp
    go_at_call 20
    refine (Es.out 1 f1 y5 _ (RF1.out.go BB1.out) KY_1.out).mono ?_
    rintro e wz2 ⟨rfl, hw⟩
    obtain rfl := hw
    refine hK.out _ _ (KEEP.out _ BB1.out) (fun hHeld => ?_)
    clear hK K
    (try simp only [Act.put, List.setIfInBounds_toArray, List.set_cons_zero, List.set_cons_succ])
    refine wpAnyH_take (i := 25) (oi := ?_) (v := ?_) ?_ (by kernel_rfl) (by decide +kernel) (by decide +kernel) (fun _ _ _ h => h) ?_ (by assumption) ?_
    rotate_left 2
    focus (simp only [List.getElem?_toArray, List.getElem?_cons_succ, List.getElem?_cons_zero] <;> rfl)
    · refine Or.inl ⟨by rfl, ?_⟩
      intro w hSw
      (try dsimp only at hSw)
      go_simp <;> with_reducible rfl
    (try simp only [Act.put, List.setIfInBounds_toArray, List.set_cons_zero, List.set_cons_succ])
    refine wpAnyH_take (i := 26) (oi := ?_) (v := ?_) ?_ (by kernel_rfl) (by decide +kernel) (by decide +kernel) (fun _ _ _ h => h) ?_ (by assumption) ?_
    rotate_left 2
    focus (simp only [List.getElem?_toArray, List.getElem?_cons_succ, List.getElem?_cons_zero] <;> rfl)
    · refine Or.inl ⟨by rfl, ?_⟩
      intro w hSw
      (try dsimp only at hSw)
      go_simp <;> with_reducible rfl
    (try simp only [Act.put, List.setIfInBounds_toArray, List.set_cons_zero, List.set_cons_succ])
    refine wpAnyH_take (i := 27) (oi := ?_) (v := ?_) ?_ (by kernel_rfl) (by decide +kernel) (by decide +kernel) (fun _ _ _ h => h) ?_ (by assumption) ?_
    rotate_left 2
    focus (simp only [List.getElem?_toArray, List.getElem?_cons_succ, List.getElem?_cons_zero] <;> rfl)
    · refine Or.inl ⟨by rfl, ?_⟩
      intro w hSw
      (try dsimp only at hSw)
      go_simp <;> with_reducible rfl
    (try simp only [Act.put, List.setIfInBounds_toArray, List.set_cons_zero, List.set_cons_succ])
    refine wpAnyH_take (i := 28) (oi := ?_) (v := ?_) ?_ (by kernel_rfl) (by decide +kernel) (by decide +kernel) (fun _ _ _ h => h) ?_ (by assumption) ?_
    rotate_left 2
    focus (simp only [List.getElem?_toArray, List.getElem?_cons_succ, List.getElem?_cons_zero] <;> rfl)
    · refine Or.inl ⟨by rfl, ?_⟩
      intro w hSw
      (try dsimp only at hSw)
      go_simp <;> with_reducible rfl
    (try simp only [Act.put, List.setIfInBounds_toArray, List.set_cons_zero, List.set_cons_succ])
    refine wpAnyH_take (i := 29) (oi := ?_) (v := ?_) ?_ (by kernel_rfl) (by decide +kernel) (by decide +kernel) (fun _ _ _ h => h) ?_ (by assumption) ?_
    rotate_left 2
    focus (simp only [List.getElem?_toArray, List.getElem?_cons_succ, List.getElem?_cons_zero] <;> rfl)
    · refine Or.inl ⟨by rfl, ?_⟩
      intro w hSw
      (try dsimp only at hSw)
      go_simp <;> with_reducible rfl
    (try simp only [Act.put, List.setIfInBounds_toArray, List.set_cons_zero, List.set_cons_succ])
    refine wpAnyH_take (i := 30) (oi := ?_) (v := ?_) ?_ (by kernel_rfl) (by decide +kernel) (by decide +kernel) (fun _ _ _ h => h) ?_ (by assumption) ?_
    rotate_left 2
    focus (simp only [List.getElem?_toArray, List.getElem?_cons_succ, List.getElem?_cons_zero] <;> rfl)
    · refine Or.inl ⟨by rfl, ?_⟩
      intro w hSw
      (try dsimp only at hSw)
      go_simp <;> with_reducible rfl
    (try simp only [Act.put, List.setIfInBounds_toArray, List.set_cons_zero, List.set_cons_succ])
    refine wpAnyH_take (i := 31) (oi := ?_) (v := ?_) ?_ (by kernel_rfl) (by decide +kernel) (by decide +kernel) (fun _ _ _ h => h) ?_ (by assumption) ?_
    rotate_left 2
    focus (simp only [List.getElem?_toArray, List.getElem?_cons_succ, List.getElem?_cons_zero] <;> rfl)
    · refine Or.inl ⟨by rfl, ?_⟩
      intro w hSw
      (try dsimp only at hSw)
      go_simp <;> with_reducible rfl
    (try simp only [Act.put, List.setIfInBounds_toArray, List.set_cons_zero, List.set_cons_succ])
    refine wpAnyH_take (i := 32) (oi := ?_) (v := ?_) ?_ (by kernel_rfl) (by decide +kernel) (by decide +kernel) (fun _ _ _ h => h) ?_ (by assumption) ?_
    rotate_left 2
    focus (simp only [List.getElem?_toArray, List.getElem?_cons_succ, List.getElem?_cons_zero] <;> rfl)
    · refine Or.inl ⟨by rfl, ?_⟩
      intro w hSw
      (try dsimp only at hSw)
      go_simp <;> with_reducible rfl
    (try simp only [Act.put, List.setIfInBounds_toArray, List.set_cons_zero, List.set_cons_succ])
    refine wpAnyH_take (i := 33) (oi := ?_) (v := ?_) ?_ (by kernel_rfl) (by decide +kernel) (by decide +kernel) (fun _ _ _ h => h) ?_ (by assumption) ?_
    rotate_left 2
    focus (simp only [List.getElem?_toArray, List.getElem?_cons_succ, List.getElem?_cons_zero] <;> rfl)
    · refine Or.inl ⟨by rfl, ?_⟩
      intro w hSw
      (try dsimp only at hSw)
      go_simp <;> with_reducible rfl
    (try simp only [Act.put, List.setIfInBounds_toArray, List.set_cons_zero, List.set_cons_succ])
    refine wpAnyH_take (i := 34) (oi := ?_) (v := ?_) ?_ (by kernel_rfl) (by decide +kernel) (by decide +kernel) (fun _ _ _ h => h) ?_ (by assumption) ?_
    rotate_left 2
    focus (simp only [List.getElem?_toArray, List.getElem?_cons_succ, List.getElem?_cons_zero] <;> rfl)
    · refine Or.inl ⟨by rfl, ?_⟩
      intro w hSw
      (try dsimp only at hSw)
      go_simp <;> with_reducible rfl
    (try simp only [Act.put, List.setIfInBounds_toArray, List.set_cons_zero, List.set_cons_succ])
    refine wpAnyH_ready (rs := [35]) (by decide +kernel) (by simp) ?_
    refine AllReadyH.cons rfl (fun K hK => ?_) AllReadyH.nil
    go_simp
    go_at_call 29
    refine (Ekey.out 2 2 rfl _).mono ?_
    rintro e wz3 ⟨⟨y6, rfl, hk⟩, hb⟩
    have BB3 := Lib.hid (belG BB1.out hb BB1.out.size)
    have KY_3 := Lib.hid (KY_1.out.go hb)
    have KZ_3 := Lib.hid hk
    clear hk
    clear hb
    refine hK.out _ _ (KEEP.out _ BB3.out) (fun hHeld => ?_)
    clear hK K
    (try simp only [Act.put, List.setIfInBounds_toArray, List.set_cons_zero, List.set_cons_succ])
    refine wpAnyH_ready (rs := [36]) (by decide +kernel) (by simp) ?_
    refine AllReadyH.cons rfl (fun K hK => ?_) AllReadyH.nil
    go_simp
    go_at_call 20
    refine (Es.out 2 f2 y6 _ (RF2.out.go BB3.out) KZ_3.out).mono ?_
    rintro e wz4 ⟨rfl, hw⟩
    obtain rfl := hw
    refine hK.out _ _ (KEEP.out _ BB3.out) (fun hHeld => ?_)
    clear hK K
    (try simp only [Act.put, List.setIfInBounds_toArray, List.set_cons_zero, List.set_cons_succ])
    refine wpAnyH_take (i := 37) (oi := ?_) (v := ?_) ?_ (by kernel_rfl) (by decide +kernel) (by decide +kernel) (fun _ _ _ h => h) ?_ (by assumption) ?_
    rotate_left 2
    focus (simp only [List.getElem?_toArray, List.getElem?_cons_succ, List.getElem?_cons_zero] <;> rfl)
    · refine Or.inl ⟨by rfl, ?_⟩
      intro w hSw
      (try dsimp only at hSw)
      go_simp <;> with_reducible rfl
    (try simp only [Act.put, List.setIfInBounds_toArray, List.set_cons_zero, List.set_cons_succ])
    refine wpAnyH_take (i := 38) (oi := ?_) (v := ?_) ?_ (by kernel_rfl) (by decide +kernel) (by decide +kernel) (fun _ _ _ h => h) ?_ (by assumption) ?_
    rotate_left 2
    focus (simp only [List.getElem?_toArray, List.getElem?_cons_succ, List.getElem?_cons_zero] <;> rfl)
    · refine Or.inl ⟨by rfl, ?_⟩
      intro w hSw
      (try dsimp only at hSw)
      go_simp <;> with_reducible rfl
    (try simp only [Act.put, List.setIfInBounds_toArray, List.set_cons_zero, List.set_cons_succ])
    refine wpAnyH_take (i := 39) (oi := ?_) (v := .agg (ringC x7 (rx 0))) ?_ (by kernel_rfl) (by decide +kernel) (by decide +kernel) (fun _ _ _ h => h) ?_ (by assumption) ?_
    rotate_left 1
    focus (simp only [List.getElem?_toArray, List.getElem?_cons_succ, List.getElem?_cons_zero] <;> rfl)
    · refine yieldsX (T := 26) ?_ (.tmp 7) ?_ ⟨g7, 0, none⟩ ?_ (ringC x7 (rx 0)) ?_
      focus rfl
      focus exact rfl
      focus exact rfl
      exact fun w hSw => run_loadX tyRing rfl (Bx.go G7.out hSw)
    (try simp only [Act.put, List.setIfInBounds_toArray, List.set_cons_zero, List.set_cons_succ])
    refine wpAnyH_ready (rs := [40]) (by decide +kernel) (by simp) ?_
    refine AllReadyH.cons rfl (fun K hK => ?_) AllReadyH.nil
    go_simp
    go_at_call 14
    refine (Er1.out x7 _ (RG7.out.go BB3.out)).mono ?_
    rintro e wz5 ⟨rfl, hb⟩
    have BB5 := Lib.hid (belG BB3.out hb BB3.out.size)
    have KY_5 := Lib.hid (KY_3.out.go hb)
    have KZ_5 := Lib.hid (KZ_3.out.go hb)
    clear hb
    refine hK.out _ _ (KEEP.out _ BB5.out) (fun hHeld => ?_)
    clear hK K
    (try simp only [Act.put, List.setIfInBounds_toArray, List.set_cons_zero, List.set_cons_succ])
    refine wpAnyH_take (i := 41) (oi := ?_) (v := ?_) ?_ (by kernel_rfl) (by decide +kernel) (by decide +kernel) (fun _ _ _ h => h) ?_ (by assumption) ?_
    rotate_left 2
    focus (simp only [List.getElem?_toArray, List.getElem?_cons_succ, List.getElem?_cons_zero] <;> rfl)
    · refine Or.inl ⟨by rfl, ?_⟩
      intro w hSw
      (try dsimp only at hSw)
      go_simp <;> with_reducible rfl
    (try simp only [Act.put, List.setIfInBounds_toArray, List.set_cons_zero, List.set_cons_succ])
    refine wpAnyH_take (i := 42) (oi := ?_) (v := ?_) ?_ (by kernel_rfl) (by decide +kernel) (by decide +kernel) (fun _ _ _ h => h) ?_ (by assumption) ?_
    rotate_left 2
    focus (simp only [List.getElem?_toArray, List.getElem?_cons_succ, List.getElem?_cons_zero] <;> rfl)
    · refine Or.inl ⟨by rfl, ?_⟩
      intro w hSw
      (try dsimp only at hSw)
      go_simp <;> with_reducible rfl
    (try simp only [Act.put, List.setIfInBounds_toArray, List.set_cons_zero, List.set_cons_succ])
    refine wpAnyH_take (i := 43) (oi := ?_) (v := ?_) ?_ (by kernel_rfl) (by decide +kernel) (by decide +kernel) (fun _ _ _ h => h) ?_ (by assumption) ?_
    rotate_left 2
    focus (simp only [List.getElem?_toArray, List.getElem?_cons_succ, List.getElem?_cons_zero] <;> rfl)
    · refine Or.inl ⟨by rfl, ?_⟩
      intro w hSw
      (try dsimp only at hSw)
      go_simp <;> with_reducible rfl
    (try simp only [Act.put, List.setIfInBounds_toArray, List.set_cons_zero, List.set_cons_succ])
    refine wpAnyH_ready (rs := [44]) (by decide +kernel) (by simp) ?_
    refine AllReadyH.cons rfl (fun K hK => ?_) AllReadyH.nil
    go_simp
    go_at_call 14
    refine (Er2.out _).mono ?_
    rintro e wz6 ⟨rfl, hb⟩
    have BB6 := Lib.hid (belG BB5.out hb BB5.out.size)
    have KY_6 := Lib.hid (KY_5.out.go hb)
    have KZ_6 := Lib.hid (KZ_5.out.go hb)
    clear hb
    refine hK.out _ _ (KEEP.out _ BB6.out) (fun hHeld => ?_)
    clear hK K
    (try simp only [Act.put, List.setIfInBounds_toArray, List.set_cons_zero, List.set_cons_succ])
    refine wpAnyH_take (i := 45) (oi := ?_) (v := ?_) ?_ (by kernel_rfl) (by decide +kernel) (by decide +kernel) (fun _ _ _ h => h) ?_ (by assumption) ?_
    rotate_left 2
    focus (simp only [List.getElem?_toArray, List.getElem?_cons_succ, List.getElem?_cons_zero] <;> rfl)
    · refine Or.inl ⟨by rfl, ?_⟩
      intro w hSw
      (try dsimp only at hSw)
      go_simp <;> with_reducible rfl
    (try simp only [Act.put, List.setIfInBounds_toArray, List.set_cons_zero, List.set_cons_succ])
    refine wpAnyH_take (i := 46) (oi := ?_) (v := ?_) ?_ (by kernel_rfl) (by decide +kernel) (by decide +kernel) (fun _ _ _ h => h) ?_ (by assumption) ?_
    rotate_left 2
    focus (simp only [List.getElem?_toArray, List.getElem?_cons_succ, List.getElem?_cons_zero] <;> rfl)
    · refine Or.inl ⟨by rfl, ?_⟩
      intro w hSw
      (try dsimp only at hSw)
      go_simp <;> with_reducible rfl
    (try simp only [Act.put, List.setIfInBounds_toArray, List.set_cons_zero, List.set_cons_succ])
    refine wpAnyH_take (i := 47) (oi := ?_) (v := ?_) ?_ (by kernel_rfl) (by decide +kernel) (by decide +kernel) (fun _ _ _ h => h) ?_ (by assumption) ?_
    rotate_left 2
    focus (simp only [List.getElem?_toArray, List.getElem?_cons_succ, List.getElem?_cons_zero] <;> rfl)
    · refine Or.inl ⟨by rfl, ?_⟩
      intro w hSw
      (try dsimp only at hSw)
      go_simp <;> with_reducible rfl
    (try simp only [Act.put, List.setIfInBounds_toArray, List.set_cons_zero, List.set_cons_succ])
    refine wpAnyH_take (i := 48) (oi := ?_) (v := .agg (ringC x1 ra)) ?_ (by kernel_rfl) (by decide +kernel) (by decide +kernel) (fun _ _ _ h => h) ?_ (by assumption) ?_
    rotate_left 1
    focus (simp only [List.getElem?_toArray, List.getElem?_cons_succ, List.getElem?_cons_zero] <;> rfl)
    · refine yieldsX (T := 26) ?_ (.tmp 1) ?_ ⟨g1, 0, none⟩ ?_ (ringC x1 ra) ?_
      focus rfl
      focus exact rfl
      focus exact rfl
      exact fun w hSw => run_loadX tyRing rfl (Bx.go G1.out hSw)
    (try simp only [Act.put, List.setIfInBounds_toArray, List.set_cons_zero, List.set_cons_succ])
    refine wpAnyH_take (i := 49) (oi := ?_) (v := .agg (ringC x1 ra)) ?_ (by kernel_rfl) (by decide +kernel) (by decide +kernel) (fun _ _ _ h => h) ?_ (by assumption) ?_
    rotate_left 1
    focus (simp only [List.getElem?_toArray, List.getElem?_cons_succ, List.getElem?_cons_zero] <;> rfl)
    · refine yieldsX (T := 26) ?_ (.tmp 1) ?_ ⟨g1, 0, none⟩ ?_ (ringC x1 ra) ?_
      focus rfl
      focus exact rfl
      focus exact rfl
      exact fun w hSw => run_loadX tyRing rfl (Bx.go G1.out hSw)
    (try simp only [Act.put, List.setIfInBounds_toArray, List.set_cons_zero, List.set_cons_succ])
    refine wpAnyH_ready (rs := [50]) (by decide +kernel) (by simp) ?_
    refine AllReadyH.cons rfl (fun K hK => ?_) AllReadyH.nil
    go_simp
    go_at_call 25
    refine (Ew.out x1 _ (RG1.out.go BB6.out)).mono ?_
    rintro e wz7 ⟨⟨xw, rfl, hk⟩, hb⟩
    have BB7 := Lib.hid (belG BB6.out hb BB6.out.size)
    have KY_7 := Lib.hid (KY_6.out.go hb)
    have KZ_7 := Lib.hid (KZ_6.out.go hb)
    have RW_7 := Lib.hid hk
    clear hk
    clear hb
    refine hK.out _ _ (KEEP.out _ BB7.out) (fun hHeld => ?_)
    clear hK K
    (try simp only [Act.put, List.setIfInBounds_toArray, List.set_cons_zero, List.set_cons_succ])
    refine wpAnyH_ready (rs := [51]) (by decide +kernel) (by simp) ?_
    refine AllReadyH.cons rfl (fun K hK => ?_) AllReadyH.nil
    go_simp
    go_at_call 15
    refine (Es1.out x1 xw _ (RG1.out.go BB7.out) RW_7.out).mono ?_
    rintro e wz8 ⟨rfl, hb⟩
    have BB8 := Lib.hid (belG BB7.out hb BB7.out.size)
    have KY_8 := Lib.hid (KY_7.out.go hb)
    have KZ_8 := Lib.hid (KZ_7.out.go hb)
    have RW_8 := Lib.hid (RW_7.out.go hb)
    clear hb
    refine hK.out _ _ (KEEP.out _ BB8.out) (fun hHeld => ?_)
    clear hK K
    (try simp only [Act.put, List.setIfInBounds_toArray, List.set_cons_zero, List.set_cons_succ])
    refine wpAnyH_take (i := 52) (oi := ?_) (v := ?_) ?_ (by kernel_rfl) (by decide +kernel) (by decide +kernel) (fun _ _ _ h => h) ?_ (by assumption) ?_
    rotate_left 2
    focus (simp only [List.getElem?_toArray, List.getElem?_cons_succ, List.getElem?_cons_zero] <;> rfl)
    · refine Or.inl ⟨by rfl, ?_⟩
      intro w hSw
      (try dsimp only at hSw)
      go_simp <;> with_reducible rfl
    (try simp only [Act.put, List.setIfInBounds_toArray, List.set_cons_zero, List.set_cons_succ])
    refine wpAnyH_take (i := 53) (oi := ?_) (v := ?_) ?_ (by kernel_rfl) (by decide +kernel) (by decide +kernel) (fun _ _ _ h => h) ?_ (by assumption) ?_
    rotate_left 2
    focus (simp only [List.getElem?_toArray, List.getElem?_cons_succ, List.getElem?_cons_zero] <;> rfl)
    · refine Or.inl ⟨by rfl, ?_⟩
      intro w hSw
      (try dsimp only at hSw)
      go_simp <;> with_reducible rfl
    (try simp only [Act.put, List.setIfInBounds_toArray, List.set_cons_zero, List.set_cons_succ])
    refine wpAnyH_take (i := 54) (oi := ?_) (v := .agg (ringC x1 ra)) ?_ (by kernel_rfl) (by decide +kernel) (by decide +kernel) (fun _ _ _ h => h) ?_ (by assumption) ?_
    rotate_left 1
    focus (simp only [List.getElem?_toArray, List.getElem?_cons_succ, List.getElem?_cons_zero] <;> rfl)
    · refine yieldsX (T := 26) ?_ (.tmp 1) ?_ ⟨g1, 0, none⟩ ?_ (ringC x1 ra) ?_
      focus rfl
      focus exact rfl
      focus exact rfl
      exact fun w hSw => run_loadX tyRing rfl (Bx.go G1.out hSw)
    (try simp only [Act.put, List.setIfInBounds_toArray, List.set_cons_zero, List.set_cons_succ])
    refine wpAnyH_take (i := 55) (oi := ?_) (v := .agg (ringC z4 ro)) ?_ (by kernel_rfl) (by decide +kernel) (by decide +kernel) (fun _ _ _ h => h) ?_ (by assumption) ?_
    rotate_left 1
    focus (simp only [List.getElem?_toArray, List.getElem?_cons_succ, List.getElem?_cons_zero] <;> rfl)
    · refine yieldsX (T := 26) ?_ (.tmp 5) ?_ ⟨g5, 0, none⟩ ?_ (ringC z4 ro) ?_
      focus rfl
      focus exact rfl
      focus exact rfl
      exact fun w hSw => run_loadX tyRing rfl (Bx.go G5.out hSw)
    (try simp only [Act.put, List.setIfInBounds_toArray, List.set_cons_zero, List.set_cons_succ])
    refine wpAnyH_ready (rs := [56]) (by decide +kernel) (by simp) ?_
    refine AllReadyH.cons rfl (fun K hK => ?_) AllReadyH.nil
    go_simp
    go_at_call 15
    refine (Es2.out x1 z4 _ (RG1.out.go BB8.out) (RG5.out.go BB8.out)).mono ?_
    rintro e wz9 ⟨rfl, hb⟩
    have BB9 := Lib.hid (belG BB8.out hb BB8.out.size)
    have KY_9 := Lib.hid (KY_8.out.go hb)
    have KZ_9 := Lib.hid (KZ_8.out.go hb)
    have RW_9 := Lib.hid (RW_8.out.go hb)
    clear hb
    refine hK.out _ _ (KEEP.out _ BB9.out) (fun hHeld => ?_)
    clear hK K
    (try simp only [Act.put, List.setIfInBounds_toArray, List.set_cons_zero, List.set_cons_succ])
    refine wpAnyH_take (i := 57) (oi := ?_) (v := ?_) ?_ (by kernel_rfl) (by decide +kernel) (by decide +kernel) (fun _ _ _ h => h) ?_ (by assumption) ?_
    rotate_left 2
    focus (simp only [List.getElem?_toArray, List.getElem?_cons_succ, List.getElem?_cons_zero] <;> rfl)
    · refine Or.inl ⟨by rfl, ?_⟩
      intro w hSw
      (try dsimp only at hSw)
      go_simp <;> with_reducible rfl
    (try simp only [Act.put, List.setIfInBounds_toArray, List.set_cons_zero, List.set_cons_succ])
    refine wpAnyH_take (i := 58) (oi := ?_) (v := ?_) ?_ (by kernel_rfl) (by decide +kernel) (by decide +kernel) (fun _ _ _ h => h) ?_ (by assumption) ?_
    rotate_left 2
    focus (simp only [List.getElem?_toArray, List.getElem?_cons_succ, List.getElem?_cons_zero] <;> rfl)
    · refine Or.inl ⟨by rfl, ?_⟩
      intro w hSw
      (try dsimp only at hSw)
      go_simp <;> with_reducible rfl
    (try simp only [Act.put, List.setIfInBounds_toArray, List.set_cons_zero, List.set_cons_succ])
    refine wpAnyH_take (i := 59) (oi := ?_) (v := ?_) ?_ (by kernel_rfl) (by decide +kernel) (by decide +kernel) (fun _ _ _ h => h) ?_ (by assumption) ?_
    rotate_left 2
    focus (simp only [List.getElem?_toArray, List.getElem?_cons_succ, List.getElem?_cons_zero] <;> rfl)
    · refine Or.inl ⟨by rfl, ?_⟩
      intro w hSw
      (try dsimp only at hSw)
      go_simp <;> with_reducible rfl
    (try simp only [Act.put, List.setIfInBounds_toArray, List.set_cons_zero])
    refine wpAnyH_done (by decide +kernel) ?_ _
    refine NoPanic.normal ?_
    clear KEEP
    go_wp2_with fail
    go_ret
    exact ⟨by first | rfl | simp, belG HB.out BB9.out HB.out.size⟩
end Go.Proofs.Ytgnccfcdonoegaa
