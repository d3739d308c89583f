
/- The document's answers (env): Input, Write. -/
import Derived.Test.YtjkkceecagbjjaaJ06
import Derived.Test.YtjkkceecagbjjaaJ11
import Derived.Test.YtjkkceecagbjjaaJ12
import Derived.Test.YtjkkceecagbjjaaJ05
namespace Go.Proofs.Ytjkkceecagbjjaa
open Go.RowKit

set_option maxRecDepth 100000 in
theorem Ow.base12 {w : World} {B B' : Nat} {v : Value} {l : List UInt8} (h : Ow w B v l) (hB : B' ≤ B) : Ow w B' v l := by
  refine ⟨h.1, ?_⟩
  rcases h.2 with h0 | ⟨g, cap, cur, e, hbg, hr⟩
  · exact .inl h0
  · exact .inr ⟨g, cap, cur, e, Nat.le_trans hB hbg, hr⟩
set_option maxRecDepth 100000 in
theorem Ow.go {w w' : World} {B : Nat} {v : Value} {l : List UInt8} (h : Ow w B v l) (hb : Below w.heap.size w w') : Ow w' B v l := by
  refine ⟨h.1, ?_⟩
  rcases h.2 with h0 | ⟨g, cap, cur, e, hbg, hg, hr⟩
  · exact .inl h0
  · exact .inr ⟨g, cap, cur, e, hbg, oldG hg hb (Nat.le_refl _), hr⟩
/-- a call's answer: a slice of the call's own, and a number -/
def AnsOwE (B : Nat) (W' : World) (e : Ending) (l : List UInt8) (n : Int) : Prop := ∃ v, e = .returned (.tuple #[v, .int .i64 n]) ∧ Ow W' B v l
set_option maxRecDepth 100000 in
theorem envC_0 (x : We) (e : Ev) : (envC x e)[0]? = some (.int .i64 e.kind) := rfl
set_option maxRecDepth 100000 in
theorem envC_1 (x : We) (e : Ev) : (envC x e)[1]? = some (.int .i64 e.dir) := rfl
set_option maxRecDepth 100000 in
theorem envC_2 (x : We) (e : Ev) : (envC x e)[2]? = some (.int .i64 e.e0) := rfl
set_option maxRecDepth 100000 in
theorem envC_3 (x : We) (e : Ev) : (envC x e)[3]? = some (.int .i64 e.e1) := rfl
set_option maxRecDepth 100000 in
theorem envC_4 (x : We) (e : Ev) : (envC x e)[4]? = some (.int .i64 e.gen) := rfl
set_option maxRecDepth 100000 in
theorem envC_5 (x : We) (e : Ev) : (envC x e)[5]? = some (.int .i64 e.seq) := rfl
set_option maxRecDepth 100000 in
theorem envC_6 (x : We) (e : Ev) : (envC x e)[6]? = some (.slice x.body.1 e.body.length x.body.2) := rfl
set_option maxRecDepth 100000 in
theorem envC_7 (x : We) (e : Ev) : (envC x e)[7]? = some (.slice x.tag.1 e.tag.length x.tag.2) := rfl
set_option maxRecDepth 100000 in
theorem bgE_nat {n : Int} {k w : Nat} (h : n = (k : Int)) : bgE n w = dgL 0 256 k w := by unfold bgE; rw [h]; rfl
set_option maxRecDepth 100000 in
theorem big12E_any (n : Int) (w : Nat) (W : World) (h0 : 0 ≤ n) (hn : n ≤ 9223372036854775807) (hw1 : 1 ≤ w) (hw2 : w ≤ 8) (hnP : n.toNat < 256 ^ w) :
    Calls Try.prog 29 #[.int .i64 n, .int .i64 w] W fun e W' => AnsF W.heap.size W' e (bgE n w) w ∧ Below W.heap.size W W' := by
  obtain ⟨k, rfl⟩ := Int.eq_ofNat_of_zero_le h0
  rw [bgE_nat rfl]
  exact big12_any k w W (by omega) hw1 hw2 (by simpa using hnP)
set_option maxRecDepth 100000 in
set_option maxHeartbeats 4000000 in
theorem input12_any (x : We) (e : Ev) (W : World) (hr : EnvR W x e) : Calls Try.prog 12 #[.agg (envC x e)] W fun r W' => AnsOwE W.heap.size W' r (inputE e).1 (inputE e).2 ∧ Below W.heap.size W W' := by
  obtain ⟨V, C, hC, hV, hb, hg⟩ := bxE1 W x e
  have HBV := Lib.hid hb
  have HV := Lib.hid hV
  have G0 := Lib.hid hg
  have RE0 := Lib.hid (hr.go hb)
  have HB := Lib.hid (Below.refl V.heap.size V)
  have CP := Lib.hid (fun w => parts12_any x e w)
  rw [← hC]
  by_cases hp : PartsE e
  case neg =>
    rw [decide_eq_false hp] at CP
    have HI := Lib.hid (show inputE e = ([], 1) from by unfold inputE; rw [if_neg hp])
    clear hC hV hb hg hr hp
    go_enter Try.func12, Try.ntmps12
    go_upto_region 1 with (fail)
    rw [← HV.out]
    clear HV
    go_wp2_with (refine loadX (.tmp 1) W.heap.size _ tyEnv rfl G0.out rfl rfl rfl ?_)
    refine (CP.out _).mono ?_
    rintro e w1 ⟨rfl, hb⟩
    have HB1 := Lib.hid (belG HBV.out hb HBV.out.size)
    clear hb
    go_wp2_with fail
    go_ret2
    exact ⟨by rw [HI.out]; exact ⟨_, rfl, Ow.nil⟩, HB1.out⟩
  rw [decide_eq_true hp] at CP
  have HI := Lib.hid (show inputE e = (inL e, 0) from by unfold inputE; rw [if_pos hp])
  have HP := Lib.hid hp
  obtain ⟨⟨a1, a2⟩, ⟨b1, b2⟩, ⟨c1, c2⟩, k, d, g1, g2, m1, m2⟩ := hp
  have p8 : (256 : Nat) ^ 8 = 18446744073709551616 := rfl
  have p4 : (256 : Nat) ^ 4 = 4294967296 := rfl
  have p1 : (256 : Nat) ^ 1 = 256 := rfl
  have CB_kind := Lib.hid (fun w => big12E_any e.kind 1 w (by omega) (by omega) (by decide) (by decide) (by omega))
  have CB_dir := Lib.hid (fun w => big12E_any e.dir 1 w (by omega) (by omega) (by decide) (by decide) (by omega))
  have CB_e0 := Lib.hid (fun w => big12E_any e.e0 8 w (by omega) (by omega) (by decide) (by decide) (by omega))
  have CB_e1 := Lib.hid (fun w => big12E_any e.e1 8 w (by omega) (by omega) (by decide) (by decide) (by omega))
  have CB_gen := Lib.hid (fun w => big12E_any e.gen 4 w (by omega) (by omega) (by decide) (by decide) (by omega))
  have CB_seq := Lib.hid (fun w => big12E_any e.seq 8 w (by omega) (by omega) (by decide) (by decide) (by omega))
  have M2 := Lib.hid m2
  clear hC hV hb hg hr p8 p4 p1 a1 a2 b1 b2 c1 c2 k d g1 g2 m1 m2
  go_enter Try.func12, Try.ntmps12
  go_upto_region 1 with (fail)
  rw [← HV.out]
  clear HV
  go_wp2_with (refine loadX (.tmp 1) W.heap.size _ tyEnv rfl G0.out rfl rfl rfl ?_)
  refine (CP.out _).mono ?_
  rintro e w1 ⟨rfl, hb⟩
  have HB1 := Lib.hid (belG HB.out hb HB.out.size)
  have G1 := Lib.hid (Bx.go G0.out hb)
  have RE1 := Lib.hid (RE0.out.go hb)
  clear hb CP
  go_upto_region 4 with (fail)
  have BB0 := Lib.hid (HB1.out.drew)
  have KEEP := Lib.hid (fun w' (hW : Below V.heap.size V w') (hG : Bx w' W.heap.size 25 (envC x e)) => (show Below V.heap.size V w' ∧ Bx w' W.heap.size 25 (envC x e) from ⟨hW, hG⟩))
  have HG_0 := Lib.hid (Bx.drew G1.out)
  have RE_0 := Lib.hid (RE1.out.go ((Below.refl w1.heap.size w1).drew))
  refine wp_region_noPanic ?_
  refine wp_region_held_drew (S := fun w' => Below V.heap.size V w' ∧ Bx w' W.heap.size 25 (envC x e)) (by kernel_rfl) (KEEP.out _ BB0.out HG_0.out) (fun hHeld => ?_)
  obtain ⟨wz0, hwz⟩ : ∃ x, x = w1.drew := ⟨_, rfl⟩
  rw [← hwz] at BB0 hHeld HG_0 RE_0 ⊢
  clear hwz
  refine wpAnyH_take (i := 0) (oi := ?_) (v := ?_) ?_ (by kernel_rfl) (by decide +kernel) (by decide +kernel) (fun _ _ _ h => h) ?_ (by assumption) ?_
  rotate_left 2
  focus (simp only [List.getElem?_toArray, List.getElem?_cons_zero] <;> rfl)
  · refine Or.inl ⟨by rfl, ?_⟩
    intro w hSw
    (try dsimp only at hSw)
    go_simp <;> with_reducible rfl
  (try simp only [Act.put, List.setIfInBounds_toArray, List.set_cons_zero, List.set_cons_succ])
  refine wpAnyH_take (i := 3) (oi := ?_) (v := ?_) ?_ (by kernel_rfl) (by decide +kernel) (by decide +kernel) (fun _ _ _ h => h) ?_ (by assumption) ?_
  rotate_left 2
  focus (simp only [List.getElem?_toArray, List.getElem?_cons_succ, List.getElem?_cons_zero] <;> rfl)
  · refine Or.inl ⟨by rfl, ?_⟩
    intro w hSw
    (try dsimp only at hSw)
    go_simp <;> with_reducible rfl
  (try simp only [Act.put, List.setIfInBounds_toArray, List.set_cons_zero, List.set_cons_succ])
  refine wpAnyH_take (i := 1) (oi := ?_) (v := ?_) ?_ (by kernel_rfl) (by decide +kernel) (by decide +kernel) (fun _ _ _ h => h) ?_ (by assumption) ?_
  rotate_left 2
  focus (simp only [List.getElem?_toArray, List.getElem?_cons_succ, List.getElem?_cons_zero] <;> rfl)
  · refine Or.inl ⟨by rfl, ?_⟩
    intro w hSw
    have hcell := (hSw.2).cell (envC_0 _ _)
    clear hSw
    go_simp <;> with_reducible rfl
  (try simp only [Act.put, List.setIfInBounds_toArray, List.set_cons_zero, List.set_cons_succ])
  refine wpAnyH_take (i := 4) (oi := ?_) (v := ?_) ?_ (by kernel_rfl) (by decide +kernel) (by decide +kernel) (fun _ _ _ h => h) ?_ (by assumption) ?_
  rotate_left 2
  focus (simp only [List.getElem?_toArray, List.getElem?_cons_succ, List.getElem?_cons_zero] <;> rfl)
  · refine Or.inl ⟨by rfl, ?_⟩
    intro w hSw
    have hcell := (hSw.2).cell (envC_1 _ _)
    clear hSw
    go_simp <;> with_reducible rfl
  (try simp only [Act.put, List.setIfInBounds_toArray, List.set_cons_zero, List.set_cons_succ])
  refine wpAnyH_ready (rs := [2]) (by decide +kernel) (by simp) ?_
  refine AllReadyH.cons (o := ?_) ?_ (fun K hK => ?_) AllReadyH.nil
  rotate_left 1
  focus (simp only [List.getElem?_toArray, List.getElem?_cons_succ, List.getElem?_cons_zero] <;> rfl)
  (try rw [if_pos (by rfl)])
  go_simp
  go_at_call 29
  refine (CB_kind.out _).mono ?_
  rintro e wz1 ⟨⟨ga, rfl, hge, hrd⟩, hb⟩
  have BB1 := Lib.hid (belG BB0.out hb BB0.out.size)
  have RE_1 := Lib.hid (RE_0.out.go hb)
  have HG_1 := Lib.hid (Bx.go HG_0.out hb)
  have RA_1 := Lib.hid hrd
  clear hrd hge
  clear hb
  refine hK.out _ _ (KEEP.out _ BB1.out HG_1.out) (fun hHeld => ?_)
  clear hK K
  (try simp only [Act.put, List.setIfInBounds_toArray, List.set_cons_zero, List.set_cons_succ])
  refine wpAnyH_ready (rs := [5]) (by decide +kernel) (by simp) ?_
  refine AllReadyH.cons (o := ?_) ?_ (fun K hK => ?_) AllReadyH.nil
  rotate_left 1
  focus (simp only [List.getElem?_toArray, List.getElem?_cons_succ, List.getElem?_cons_zero] <;> rfl)
  (try rw [if_pos (by rfl)])
  go_simp
  go_at_call 29
  refine (CB_dir.out _).mono ?_
  rintro e wz2 ⟨⟨gb, rfl, hge, hrd⟩, hb⟩
  have BB2 := Lib.hid (belG BB1.out hb BB1.out.size)
  have RE_2 := Lib.hid (RE_1.out.go hb)
  have RA_2 := Lib.hid (RA_1.out.go hb)
  have HG_2 := Lib.hid (Bx.go HG_1.out hb)
  have RB_2 := Lib.hid hrd
  clear hrd hge
  clear hb
  refine hK.out _ _ (KEEP.out _ BB2.out HG_2.out) (fun hHeld => ?_)
  clear hK K
  (try simp only [Act.put, List.setIfInBounds_toArray, List.set_cons_zero, List.set_cons_succ])
  refine wpAnyH_ready (rs := [6]) (by decide +kernel) (by simp) ?_
  refine AllReadyH.cons (o := ?_) ?_ (fun K hK => ?_) AllReadyH.nil
  rotate_left 1
  focus (simp only [List.getElem?_toArray, List.getElem?_cons_succ, List.getElem?_cons_zero] <;> rfl)
  rw [if_pos (by rfl)]
  refine wp_appG _ (.tmp 12) (.tmp 15) rfl ⟨ga, 0, none⟩ (bgE e.kind 1) (bgE e.dir 1) (some ⟨gb, 0, none⟩) 1 1 1 _ _ rfl rfl (bgE_len _ _).symm (bgE_len _ _).symm RA_2.out RB_2.out (by rw [bgE_len]; decide) (by rw [bgE_len]; decide) (by rw [bgE_len, bgE_len]; decide) ?_
  intro va3 wz3 hown hb
  have BB3 := Lib.hid (belG BB2.out hb BB2.out.size)
  have OW_3 := Lib.hid (Ow.base12 hown BB2.out.size)
  have RE_3 := Lib.hid (RE_2.out.go hb)
  have RA_3 := Lib.hid (RA_2.out.go hb)
  have RB_3 := Lib.hid (RB_2.out.go hb)
  have HG_3 := Lib.hid (Bx.go HG_2.out hb)
  clear hown hb
  (try simp only [Act.put, List.setIfInBounds_toArray, List.set_cons_zero, List.set_cons_succ])
  refine hK.out _ _ (KEEP.out _ BB3.out HG_3.out) (fun hHeld => ?_)
  clear hK K
  (try dsimp only)
  refine wpAnyH_take (i := 7) (oi := ?_) (v := ?_) ?_ (by kernel_rfl) (by decide +kernel) (by decide +kernel) (fun _ _ _ h => h) ?_ (by assumption) ?_
  rotate_left 2
  focus (simp only [List.getElem?_toArray, List.getElem?_cons_succ, List.getElem?_cons_zero] <;> rfl)
  · refine Or.inl ⟨by rfl, ?_⟩
    intro w hSw
    (try dsimp only at hSw)
    go_simp <;> with_reducible rfl
  (try simp only [Act.put, List.setIfInBounds_toArray, List.set_cons_zero, List.set_cons_succ])
  refine wpAnyH_done (by decide +kernel) ?_ _
  refine NoPanic.normal ?_
  clear KEEP
  have HB4 := BB3
  have G4 := HG_3
  have RE4 := RE_3
  have OW4 := OW_3
  obtain ⟨w4, hw⟩ : ∃ x, x = wz3 := ⟨_, rfl⟩
  rw [← hw] at HB4 G4 RE4 OW4 ⊢
  clear hw
  obtain ⟨l4, hl⟩ : ∃ l, l = (bgE e.kind 1 ++ bgE e.dir 1) := ⟨_, rfl⟩
  have EL4 := Lib.hid hl
  have L4 := Lib.hid (show l4.length = 2 from by rw [hl]; simp only [List.length_append, bgE_len])
  rw [← hl] at OW4
  clear hl
  go_upto_region 5 with (fail)
  have BB0 := Lib.hid (HB4.out.drew)
  have KEEP := Lib.hid (fun w' (hW : Below V.heap.size V w') (hG : Bx w' W.heap.size 25 (envC x e)) => (show Below V.heap.size V w' ∧ Bx w' W.heap.size 25 (envC x e) from ⟨hW, hG⟩))
  have HG_0 := Lib.hid (Bx.drew G4.out)
  have RE_0 := Lib.hid (RE4.out.go ((Below.refl w4.heap.size w4).drew))
  have OW_0 := Lib.hid (OW4.out.go ((Below.refl w4.heap.size w4).drew))
  refine wp_region_noPanic ?_
  refine wp_region_held_drew (S := fun w' => Below V.heap.size V w' ∧ Bx w' W.heap.size 25 (envC x e)) (by kernel_rfl) (KEEP.out _ BB0.out HG_0.out) (fun hHeld => ?_)
  obtain ⟨wz0, hwz⟩ : ∃ x, x = w4.drew := ⟨_, rfl⟩
  rw [← hwz] at BB0 hHeld HG_0 RE_0 OW_0 ⊢
  clear hwz
  refine wpAnyH_take (i := 0) (oi := ?_) (v := ?_) ?_ (by kernel_rfl) (by decide +kernel) (by decide +kernel) (fun _ _ _ h => h) ?_ (by assumption) ?_
  rotate_left 2
  focus (simp only [List.getElem?_toArray, List.getElem?_cons_zero] <;> rfl)
  · refine Or.inl ⟨by rfl, ?_⟩
    intro w hSw
    (try dsimp only at hSw)
    go_simp <;> with_reducible rfl
  (try simp only [Act.put, List.setIfInBounds_toArray, List.set_cons_zero, List.set_cons_succ])
  refine wpAnyH_take (i := 1) (oi := ?_) (v := ?_) ?_ (by kernel_rfl) (by decide +kernel) (by decide +kernel) (fun _ _ _ h => h) ?_ (by assumption) ?_
  rotate_left 2
  focus (simp only [List.getElem?_toArray, List.getElem?_cons_succ, List.getElem?_cons_zero] <;> rfl)
  · refine Or.inl ⟨by rfl, ?_⟩
    intro w hSw
    (try dsimp only at hSw)
    go_simp <;> with_reducible rfl
  (try simp only [Act.put, List.setIfInBounds_toArray, List.set_cons_zero, List.set_cons_succ])
  refine wpAnyH_take (i := 6) (oi := ?_) (v := ?_) ?_ (by kernel_rfl) (by decide +kernel) (by decide +kernel) (fun _ _ _ h => h) ?_ (by assumption) ?_
  rotate_left 2
  focus (simp only [List.getElem?_toArray, List.getElem?_cons_succ, List.getElem?_cons_zero] <;> rfl)
  · refine Or.inl ⟨by rfl, ?_⟩
    intro w hSw
    (try dsimp only at hSw)
    go_simp <;> with_reducible rfl
  (try simp only [Act.put, List.setIfInBounds_toArray, List.set_cons_zero, List.set_cons_succ])
  refine wpAnyH_take (i := 2) (oi := ?_) (v := ?_) ?_ (by kernel_rfl) (by decide +kernel) (by decide +kernel) (fun _ _ _ h => h) ?_ (by assumption) ?_
  rotate_left 2
  focus (simp only [List.getElem?_toArray, List.getElem?_cons_succ, List.getElem?_cons_zero] <;> rfl)
  · refine Or.inl ⟨by rfl, ?_⟩
    intro w hSw
    (try dsimp only at hSw)
    go_simp <;> with_reducible rfl
  (try simp only [Act.put, List.setIfInBounds_toArray, List.set_cons_zero, List.set_cons_succ])
  refine wpAnyH_take (i := 7) (oi := ?_) (v := ?_) ?_ (by kernel_rfl) (by decide +kernel) (by decide +kernel) (fun _ _ _ h => h) ?_ (by assumption) ?_
  rotate_left 2
  focus (simp only [List.getElem?_toArray, List.getElem?_cons_succ, List.getElem?_cons_zero] <;> rfl)
  · refine Or.inl ⟨by rfl, ?_⟩
    intro w hSw
    (try dsimp only at hSw)
    go_simp <;> with_reducible rfl
  (try simp only [Act.put, List.setIfInBounds_toArray, List.set_cons_zero, List.set_cons_succ])
  refine wpAnyH_take (i := 3) (oi := ?_) (v := ?_) ?_ (by kernel_rfl) (by decide +kernel) (by decide +kernel) (fun _ _ _ h => h) ?_ (by assumption) ?_
  rotate_left 2
  focus (simp only [List.getElem?_toArray, List.getElem?_cons_succ, List.getElem?_cons_zero] <;> rfl)
  · refine Or.inl ⟨by rfl, ?_⟩
    intro w hSw
    have hcell := (hSw.2).cell (envC_2 _ _)
    clear hSw
    go_simp <;> with_reducible rfl
  (try simp only [Act.put, List.setIfInBounds_toArray, List.set_cons_zero, List.set_cons_succ])
  refine wpAnyH_take (i := 8) (oi := ?_) (v := ?_) ?_ (by kernel_rfl) (by decide +kernel) (by decide +kernel) (fun _ _ _ h => h) ?_ (by assumption) ?_
  rotate_left 2
  focus (simp only [List.getElem?_toArray, List.getElem?_cons_succ, List.getElem?_cons_zero] <;> rfl)
  · refine Or.inl ⟨by rfl, ?_⟩
    intro w hSw
    have hcell := (hSw.2).cell (envC_3 _ _)
    clear hSw
    go_simp <;> with_reducible rfl
  (try simp only [Act.put, List.setIfInBounds_toArray, List.set_cons_zero, List.set_cons_succ])
  refine wpAnyH_ready (rs := [4]) (by decide +kernel) (by simp) ?_
  refine AllReadyH.cons (o := ?_) ?_ (fun K hK => ?_) AllReadyH.nil
  rotate_left 1
  focus (simp only [List.getElem?_toArray, List.getElem?_cons_succ, List.getElem?_cons_zero] <;> rfl)
  (try rw [if_pos (by rfl)])
  go_simp
  go_at_call 29
  refine (CB_e0.out _).mono ?_
  rintro e wz1 ⟨⟨gc, rfl, hge, hrd⟩, hb⟩
  have BB1 := Lib.hid (belG BB0.out hb BB0.out.size)
  have RE_1 := Lib.hid (RE_0.out.go hb)
  have OW_1 := Lib.hid (OW_0.out.go hb)
  have HG_1 := Lib.hid (Bx.go HG_0.out hb)
  have RC_1 := Lib.hid hrd
  clear hrd hge
  clear hb
  refine hK.out _ _ (KEEP.out _ BB1.out HG_1.out) (fun hHeld => ?_)
  clear hK K
  (try simp only [Act.put, List.setIfInBounds_toArray, List.set_cons_zero, List.set_cons_succ])
  refine wpAnyH_ready (rs := [5]) (by decide +kernel) (by simp) ?_
  refine AllReadyH.cons (o := ?_) ?_ (fun K hK => ?_) AllReadyH.nil
  rotate_left 1
  focus (simp only [List.getElem?_toArray, List.getElem?_cons_succ, List.getElem?_cons_zero] <;> rfl)
  rw [if_pos (by rfl)]
  refine wp_appS _ (.tmp 17) (.tmp 21) rfl V.heap.size va3 l4 (bgE e.e0 8) rfl OW_1.out (some ⟨gc, 0, none⟩) 8 8 _ rfl (bgE_len _ _).symm RC_1.out (by rw [L4.out, bgE_len]; decide) BB1.out.size ?_
  intro va2 wz2 hown hg
  have BB2 := Lib.hid (Ow.below OW_1.out BB1.out hg BB1.out.size)
  have OW_2 := Lib.hid hown
  have RE_2 := Lib.hid (RE0.out.go BB2.out)
  have HG_2 := Lib.hid (Bx.go G0.out BB2.out)
  clear hown hg
  (try simp only [Act.put, List.setIfInBounds_toArray, List.set_cons_zero, List.set_cons_succ])
  refine hK.out _ _ (KEEP.out _ BB2.out HG_2.out) (fun hHeld => ?_)
  clear hK K
  (try dsimp only)
  refine wpAnyH_ready (rs := [9]) (by decide +kernel) (by simp) ?_
  refine AllReadyH.cons (o := ?_) ?_ (fun K hK => ?_) AllReadyH.nil
  rotate_left 1
  focus (simp only [List.getElem?_toArray, List.getElem?_cons_succ, List.getElem?_cons_zero] <;> rfl)
  (try rw [if_pos (by rfl)])
  go_simp
  go_at_call 29
  refine (CB_e1.out _).mono ?_
  rintro e wz3 ⟨⟨gd, rfl, hge, hrd⟩, hb⟩
  have BB3 := Lib.hid (belG BB2.out hb BB2.out.size)
  have RE_3 := Lib.hid (RE_2.out.go hb)
  have OW_3 := Lib.hid (OW_2.out.go hb)
  have HG_3 := Lib.hid (Bx.go HG_2.out hb)
  have RD_3 := Lib.hid hrd
  clear hrd hge
  clear hb
  refine hK.out _ _ (KEEP.out _ BB3.out HG_3.out) (fun hHeld => ?_)
  clear hK K
  (try simp only [Act.put, List.setIfInBounds_toArray, List.set_cons_zero, List.set_cons_succ])
  refine wpAnyH_ready (rs := [10]) (by decide +kernel) (by simp) ?_
  refine AllReadyH.cons (o := ?_) ?_ (fun K hK => ?_) AllReadyH.nil
  rotate_left 1
  focus (simp only [List.getElem?_toArray, List.getElem?_cons_succ, List.getElem?_cons_zero] <;> rfl)
  rw [if_pos (by rfl)]
  refine wp_appS _ (.tmp 22) (.tmp 26) rfl V.heap.size va2 (l4 ++ (bgE e.e0 8)) (bgE e.e1 8) rfl OW_3.out (some ⟨gd, 0, none⟩) 8 8 _ rfl (bgE_len _ _).symm RD_3.out (by rw [List.length_append, L4.out, bgE_len, bgE_len]; decide) BB3.out.size ?_
  intro va4 wz4 hown hg
  have BB4 := Lib.hid (Ow.below OW_3.out BB3.out hg BB3.out.size)
  have OW_4 := Lib.hid hown
  have RE_4 := Lib.hid (RE0.out.go BB4.out)
  have HG_4 := Lib.hid (Bx.go G0.out BB4.out)
  clear hown hg
  (try simp only [Act.put, List.setIfInBounds_toArray, List.set_cons_zero, List.set_cons_succ])
  refine hK.out _ _ (KEEP.out _ BB4.out HG_4.out) (fun hHeld => ?_)
  clear hK K
  (try dsimp only)
  refine wpAnyH_take (i := 11) (oi := ?_) (v := ?_) ?_ (by kernel_rfl) (by decide +kernel) (by decide +kernel) (fun _ _ _ h => h) ?_ (by assumption) ?_
  rotate_left 2
  focus (simp only [List.getElem?_toArray, List.getElem?_cons_succ, List.getElem?_cons_zero] <;> rfl)
  · refine Or.inl ⟨by rfl, ?_⟩
    intro w hSw
    (try dsimp only at hSw)
    go_simp <;> with_reducible rfl
  (try simp only [Act.put, List.setIfInBounds_toArray, List.set_cons_zero, List.set_cons_succ])
  refine wpAnyH_done (by decide +kernel) ?_ _
  refine NoPanic.normal ?_
  clear KEEP
  have HB5 := BB4
  have G5 := HG_4
  have RE5 := RE_4
  have OW5 := OW_4
  obtain ⟨w5, hw⟩ : ∃ x, x = wz4 := ⟨_, rfl⟩
  rw [← hw] at HB5 G5 RE5 OW5 ⊢
  clear hw
  obtain ⟨l5, hl⟩ : ∃ l, l = ((l4 ++ bgE e.e0 8) ++ bgE e.e1 8) := ⟨_, rfl⟩
  have EL5 := Lib.hid hl
  have L5 := Lib.hid (show l5.length = 18 from by rw [hl]; simp only [List.length_append, bgE_len]; rw [L4.out])
  rw [← hl] at OW5
  clear hl
  go_upto_region 6 with (fail)
  have BB0 := Lib.hid (HB5.out.drew)
  have KEEP := Lib.hid (fun w' (hW : Below V.heap.size V w') (hG : Bx w' W.heap.size 25 (envC x e)) => (show Below V.heap.size V w' ∧ Bx w' W.heap.size 25 (envC x e) from ⟨hW, hG⟩))
  have HG_0 := Lib.hid (Bx.drew G5.out)
  have RE_0 := Lib.hid (RE5.out.go ((Below.refl w5.heap.size w5).drew))
  have OW_0 := Lib.hid (OW5.out.go ((Below.refl w5.heap.size w5).drew))
  refine wp_region_noPanic ?_
  refine wp_region_held_drew (S := fun w' => Below V.heap.size V w' ∧ Bx w' W.heap.size 25 (envC x e)) (by kernel_rfl) (KEEP.out _ BB0.out HG_0.out) (fun hHeld => ?_)
  obtain ⟨wz0, hwz⟩ : ∃ x, x = w5.drew := ⟨_, rfl⟩
  rw [← hwz] at BB0 hHeld HG_0 RE_0 OW_0 ⊢
  clear hwz
  refine wpAnyH_take (i := 0) (oi := ?_) (v := ?_) ?_ (by kernel_rfl) (by decide +kernel) (by decide +kernel) (fun _ _ _ h => h) ?_ (by assumption) ?_
  rotate_left 2
  focus (simp only [List.getElem?_toArray, List.getElem?_cons_zero] <;> rfl)
  · refine Or.inl ⟨by rfl, ?_⟩
    intro w hSw
    (try dsimp only at hSw)
    go_simp <;> with_reducible rfl
  (try simp only [Act.put, List.setIfInBounds_toArray, List.set_cons_zero, List.set_cons_succ])
  refine wpAnyH_take (i := 1) (oi := ?_) (v := ?_) ?_ (by kernel_rfl) (by decide +kernel) (by decide +kernel) (fun _ _ _ h => h) ?_ (by assumption) ?_
  rotate_left 2
  focus (simp only [List.getElem?_toArray, List.getElem?_cons_succ, List.getElem?_cons_zero] <;> rfl)
  · refine Or.inl ⟨by rfl, ?_⟩
    intro w hSw
    (try dsimp only at hSw)
    go_simp <;> with_reducible rfl
  (try simp only [Act.put, List.setIfInBounds_toArray, List.set_cons_zero, List.set_cons_succ])
  refine wpAnyH_take (i := 5) (oi := ?_) (v := ?_) ?_ (by kernel_rfl) (by decide +kernel) (by decide +kernel) (fun _ _ _ h => h) ?_ (by assumption) ?_
  rotate_left 2
  focus (simp only [List.getElem?_toArray, List.getElem?_cons_succ, List.getElem?_cons_zero] <;> rfl)
  · refine Or.inl ⟨by rfl, ?_⟩
    intro w hSw
    (try dsimp only at hSw)
    go_simp <;> with_reducible rfl
  (try simp only [Act.put, List.setIfInBounds_toArray, List.set_cons_zero, List.set_cons_succ])
  refine wpAnyH_take (i := 2) (oi := ?_) (v := ?_) ?_ (by kernel_rfl) (by decide +kernel) (by decide +kernel) (fun _ _ _ h => h) ?_ (by assumption) ?_
  rotate_left 2
  focus (simp only [List.getElem?_toArray, List.getElem?_cons_succ, List.getElem?_cons_zero] <;> rfl)
  · refine Or.inl ⟨by rfl, ?_⟩
    intro w hSw
    have hcell := (hSw.2).cell (envC_4 _ _)
    clear hSw
    go_simp <;> with_reducible rfl
  (try simp only [Act.put, List.setIfInBounds_toArray, List.set_cons_zero, List.set_cons_succ])
  refine wpAnyH_take (i := 6) (oi := ?_) (v := ?_) ?_ (by kernel_rfl) (by decide +kernel) (by decide +kernel) (fun _ _ _ h => h) ?_ (by assumption) ?_
  rotate_left 2
  focus (simp only [List.getElem?_toArray, List.getElem?_cons_succ, List.getElem?_cons_zero] <;> rfl)
  · refine Or.inl ⟨by rfl, ?_⟩
    intro w hSw
    have hcell := (hSw.2).cell (envC_5 _ _)
    clear hSw
    go_simp <;> with_reducible rfl
  (try simp only [Act.put, List.setIfInBounds_toArray, List.set_cons_zero, List.set_cons_succ])
  refine wpAnyH_ready (rs := [3]) (by decide +kernel) (by simp) ?_
  refine AllReadyH.cons (o := ?_) ?_ (fun K hK => ?_) AllReadyH.nil
  rotate_left 1
  focus (simp only [List.getElem?_toArray, List.getElem?_cons_succ, List.getElem?_cons_zero] <;> rfl)
  (try rw [if_pos (by rfl)])
  go_simp
  go_at_call 29
  refine (CB_gen.out _).mono ?_
  rintro e wz1 ⟨⟨gg, rfl, hge, hrd⟩, hb⟩
  have BB1 := Lib.hid (belG BB0.out hb BB0.out.size)
  have RE_1 := Lib.hid (RE_0.out.go hb)
  have OW_1 := Lib.hid (OW_0.out.go hb)
  have HG_1 := Lib.hid (Bx.go HG_0.out hb)
  have RG_1 := Lib.hid hrd
  clear hrd hge
  clear hb
  refine hK.out _ _ (KEEP.out _ BB1.out HG_1.out) (fun hHeld => ?_)
  clear hK K
  (try simp only [Act.put, List.setIfInBounds_toArray, List.set_cons_zero, List.set_cons_succ])
  refine wpAnyH_ready (rs := [4]) (by decide +kernel) (by simp) ?_
  refine AllReadyH.cons (o := ?_) ?_ (fun K hK => ?_) AllReadyH.nil
  rotate_left 1
  focus (simp only [List.getElem?_toArray, List.getElem?_cons_succ, List.getElem?_cons_zero] <;> rfl)
  rw [if_pos (by rfl)]
  refine wp_appS _ (.tmp 28) (.tmp 31) rfl V.heap.size va4 l5 (bgE e.gen 4) rfl OW_1.out (some ⟨gg, 0, none⟩) 4 4 _ rfl (bgE_len _ _).symm RG_1.out (by rw [L5.out, bgE_len]; decide) BB1.out.size ?_
  intro va2 wz2 hown hg
  have BB2 := Lib.hid (Ow.below OW_1.out BB1.out hg BB1.out.size)
  have OW_2 := Lib.hid hown
  have RE_2 := Lib.hid (RE0.out.go BB2.out)
  have HG_2 := Lib.hid (Bx.go G0.out BB2.out)
  clear hown hg
  (try simp only [Act.put, List.setIfInBounds_toArray, List.set_cons_zero, List.set_cons_succ])
  refine hK.out _ _ (KEEP.out _ BB2.out HG_2.out) (fun hHeld => ?_)
  clear hK K
  (try dsimp only)
  refine wpAnyH_ready (rs := [7]) (by decide +kernel) (by simp) ?_
  refine AllReadyH.cons (o := ?_) ?_ (fun K hK => ?_) AllReadyH.nil
  rotate_left 1
  focus (simp only [List.getElem?_toArray, List.getElem?_cons_succ, List.getElem?_cons_zero] <;> rfl)
  (try rw [if_pos (by rfl)])
  go_simp
  go_at_call 29
  refine (CB_seq.out _).mono ?_
  rintro e wz3 ⟨⟨gh, rfl, hge, hrd⟩, hb⟩
  have BB3 := Lib.hid (belG BB2.out hb BB2.out.size)
  have RE_3 := Lib.hid (RE_2.out.go hb)
  have OW_3 := Lib.hid (OW_2.out.go hb)
  have HG_3 := Lib.hid (Bx.go HG_2.out hb)
  have RH_3 := Lib.hid hrd
  clear hrd hge
  clear hb
  refine hK.out _ _ (KEEP.out _ BB3.out HG_3.out) (fun hHeld => ?_)
  clear hK K
  (try simp only [Act.put, List.setIfInBounds_toArray, List.set_cons_zero, List.set_cons_succ])
  refine wpAnyH_ready (rs := [8]) (by decide +kernel) (by simp) ?_
  refine AllReadyH.cons (o := ?_) ?_ (fun K hK => ?_) AllReadyH.nil
  rotate_left 1
  focus (simp only [List.getElem?_toArray, List.getElem?_cons_succ, List.getElem?_cons_zero] <;> rfl)
  rw [if_pos (by rfl)]
  refine wp_appS _ (.tmp 32) (.tmp 35) rfl V.heap.size va2 (l5 ++ (bgE e.gen 4)) (bgE e.seq 8) rfl OW_3.out (some ⟨gh, 0, none⟩) 8 8 _ rfl (bgE_len _ _).symm RH_3.out (by rw [List.length_append, L5.out, bgE_len, bgE_len]; decide) BB3.out.size ?_
  intro va4 wz4 hown hg
  have BB4 := Lib.hid (Ow.below OW_3.out BB3.out hg BB3.out.size)
  have OW_4 := Lib.hid hown
  have RE_4 := Lib.hid (RE0.out.go BB4.out)
  have HG_4 := Lib.hid (Bx.go G0.out BB4.out)
  clear hown hg
  (try simp only [Act.put, List.setIfInBounds_toArray, List.set_cons_zero, List.set_cons_succ])
  refine hK.out _ _ (KEEP.out _ BB4.out HG_4.out) (fun hHeld => ?_)
  clear hK K
  (try dsimp only)
  refine wpAnyH_take (i := 9) (oi := ?_) (v := ?_) ?_ (by kernel_rfl) (by decide +kernel) (by decide +kernel) (fun _ _ _ h => h) ?_ (by assumption) ?_
  rotate_left 2
  focus (simp only [List.getElem?_toArray, List.getElem?_cons_succ, List.getElem?_cons_zero] <;> rfl)
  · refine Or.inl ⟨by rfl, ?_⟩
    intro w hSw
    (try dsimp only at hSw)
    go_simp <;> with_reducible rfl
  (try simp only [Act.put, List.setIfInBounds_toArray, List.set_cons_zero, List.set_cons_succ])
  refine wpAnyH_done (by decide +kernel) ?_ _
  refine NoPanic.normal ?_
  clear KEEP
  have HB6 := BB4
  have G6 := HG_4
  have RE6 := RE_4
  have OW6 := OW_4
  obtain ⟨w6, hw⟩ : ∃ x, x = wz4 := ⟨_, rfl⟩
  rw [← hw] at HB6 G6 RE6 OW6 ⊢
  clear hw
  obtain ⟨l6, hl⟩ : ∃ l, l = ((l5 ++ bgE e.gen 4) ++ bgE e.seq 8) := ⟨_, rfl⟩
  have EL6 := Lib.hid hl
  have L6 := Lib.hid (show l6.length = 30 from by rw [hl]; simp only [List.length_append, bgE_len]; rw [L5.out])
  rw [← hl] at OW6
  clear hl
  have x6 := G6.out.cell (envC_6 x e)
  go_wp2_with (at_builtin; (refine wpList_appS _ rfl (.tmp 37) (.tmp 39) rfl V.heap.size va4 l6 e.body rfl OW6.out x.body.1 e.body.length x.body.2 _ rfl rfl RE6.out.1.2.2 (by rw [L6.out]; have := M2.out; omega) HB6.out.size ?_); intro v9 w9 hown hgrow; have HB9 := Lib.hid (Ow.below OW6.out HB6.out hgrow HB6.out.size); have OW9 := Lib.hid hown; clear hown hgrow)
  go_ret2
  exact ⟨by
    rw [HI.out]
    refine ⟨_, rfl, ?_⟩
    have h := Ow.base12 OW9.out HBV.out.size
    rw [EL6.out, EL5.out, EL4.out] at h
    show Ow _ _ _ (inL e)
    unfold inL headE
    simp only [List.append_assoc] at h ⊢
    exact h, belG HBV.out HB9.out HBV.out.size⟩
set_option maxRecDepth 100000 in
set_option maxHeartbeats 4000000 in
theorem write12_any (x : We) (e : Ev) (W : World) (hr : EnvR W x e) : Calls Try.prog 14 #[.agg (envC x e)] W fun r W' => AnsOwE W.heap.size W' r (writeE e).1 (writeE e).2 ∧ Below W.heap.size W W' := by
  obtain ⟨V, C, hC, hV, hb, hg⟩ := bxE1 W x e
  have HB := Lib.hid hb
  have HV := Lib.hid hV
  have G := Lib.hid hg
  have RE := Lib.hid (hr.go hb)
  have CP := Lib.hid (fun w => right12_any x e w)
  have CI := Lib.hid (fun w (h : EnvR w x e) => input12_any x e w h)
  rw [← hC]
  by_cases hp : RightE e
  case neg =>
    rw [decide_eq_false hp] at CP
    have HI := Lib.hid (show writeE e = ([], 1) from by unfold writeE; rw [if_neg hp])
    clear hC hV hb hg hr hp
    go_enter Try.func14, Try.ntmps14
    go_upto_region 1 with (fail)
    rw [← HV.out]
    clear HV
    go_wp2_with (refine loadX (.tmp 1) W.heap.size _ tyEnv rfl G.out rfl rfl rfl ?_)
    refine (CP.out _).mono ?_
    rintro r w1 ⟨rfl, hb⟩
    have HB1 := Lib.hid (belG HB.out hb HB.out.size)
    clear hb
    go_wp2_with fail
    go_ret2
    exact ⟨by rw [HI.out]; exact ⟨_, rfl, Ow.nil⟩, HB1.out⟩
  rw [decide_eq_true hp] at CP
  have HI := Lib.hid (show writeE e = (inL e ++ e.tag, 0) from by unfold writeE; rw [if_pos hp])
  have HN := Lib.hid (show inputE e = (inL e, 0) from by unfold inputE; rw [if_pos hp.1])
  rw [HN.out] at CI
  have LT := Lib.hid (show (inL e).length + e.tag.length ≤ 100000000 from by have h1 := inL_len e; have h2 := hp.1.2.2.2.2.2.2.2.2; have h3 := hp.2; omega)
  clear hC hV hb hg hr hp
  go_enter Try.func14, Try.ntmps14
  go_upto_region 1 with (fail)
  rw [← HV.out]
  clear HV
  go_wp2_with (refine loadX (.tmp 1) W.heap.size _ tyEnv rfl G.out rfl rfl rfl ?_)
  refine (CP.out _).mono ?_
  rintro r w1 ⟨rfl, hb⟩
  have HB1 := Lib.hid (belG HB.out hb HB.out.size)
  have G1 := Lib.hid (Bx.go G.out hb)
  have RE1 := Lib.hid (RE.out.go hb)
  clear hb CP HB G RE
  go_wp2_with (refine loadX (.tmp 1) W.heap.size _ tyEnv rfl G1.out rfl rfl rfl ?_)
  refine (CI.out _ RE1.out).mono ?_
  rintro r w2 ⟨⟨v, rfl, how⟩, hb⟩
  have HB2 := Lib.hid (belG HB1.out hb HB1.out.size)
  have G2 := Lib.hid (Bx.go G1.out hb)
  have RE2 := Lib.hid (RE1.out.go hb)
  have OW2 := Lib.hid (Ow.base12 how HB1.out.size)
  have x7 := G2.out.cell (envC_7 x e)
  clear hb how CI HB1 G1 RE1
  go_wp2_with (at_builtin; (refine wpList_appS _ rfl (.tmp 16) (.tmp 18) rfl W.heap.size v (inL e) e.tag rfl OW2.out x.tag.1 e.tag.length x.tag.2 _ rfl rfl RE2.out.2.2.2 LT.out HB2.out.size ?_); intro v9 w9 hown hgrow; have HB9 := Lib.hid (Ow.below OW2.out HB2.out hgrow HB2.out.size); have OW9 := Lib.hid hown; clear hown hgrow)
  go_ret2
  exact ⟨by rw [HI.out]; exact ⟨_, rfl, OW9.out⟩, HB9.out⟩
end Go.Proofs.Ytjkkceecagbjjaa
/- Structs in memory: cells that are no bytes; parts, alone. -/

namespace Go.Proofs.Ytjkkceecagbjjaa
open Go.RowKit

/-- no cell is a byte -/
def No8 (C : Array Value) : Prop := ∀ v ∈ C.toList, ∀ n, v ≠ .int .u8 n
set_option maxRecDepth 100000 in
theorem Rd.putX {w : World} {g o : Nat} {T : TypeId} {C : Array Value} {A : Option Addr} {l : List UInt8} (h : Rd w w.heap.size A l) (hg : Bx w g T C) (hn : No8 C) (D : List Value) : Rd (w.setCells g o D) (w.setCells g o D).heap.size A l := by
  intro h0
  obtain ⟨b, q, rfl, hb, hc⟩ := h h0
  have hne : b ≠ g := by
    rintro rfl
    have h1 := hc 0 h0
    rw [Nat.add_zero] at h1
    have h2 := (cell_of_row w b q C T (0, 0) hg).symm.trans h1
    rw [← Array.getElem?_toList] at h2
    exact hn _ (List.mem_of_getElem? h2) _ rfl
  have hs : ∀ (D : List Value) (o : Nat) (w : World), (w.setCells g o D).heap.size = w.heap.size := by
    intro D
    induction D with
    | nil => intro o w; rfl
    | cons v r ih => intro o w; rw [World.setCells, ih]; simp [World.setCell]
  exact ⟨b, q, rfl, by rw [hs]; exact hb, fun j hj => by rw [World.cell?_of_block (w := w) (a := ⟨b, q + j, none⟩) (setCells_block g D o w b hne)]; exact hc j hj⟩
set_option maxRecDepth 100000 in
theorem Rd.setRowX {w : World} {g : Nat} {T : TypeId} {C C' : Array Value} {A : Option Addr} {l : List UInt8} (h : Rd w w.heap.size A l) (hg : Bx w g T C) (hn : No8 C) : Rd (w.setRow g C') (w.setRow g C').heap.size A l := by
  intro h0
  obtain ⟨b, o, rfl, hb, hc⟩ := h h0
  have hne : b ≠ g := by
    rintro rfl
    have h1 := hc 0 h0
    rw [Nat.add_zero] at h1
    have h2 := (cell_of_row w b o C T (0, 0) hg).symm.trans h1
    rw [← Array.getElem?_toList] at h2
    exact hn _ (List.mem_of_getElem? h2) _ rfl
  have hs : (w.setRow g C').heap.size = w.heap.size := by simp [World.setRow]
  exact ⟨b, o, rfl, by rw [hs]; exact hb, fun j hj => by rw [World.cell?_of_block (w := w) (a := ⟨b, o + j, none⟩) (setRow_other w g b C' hne)]; exact hc j hj⟩
set_option maxRecDepth 100000 in
/-- a struct is stored, alone -/
theorem wp_storeX {o : Oper} {a : Act} {K : Act → World → Prop} {Q : Exit → Act → World → Prop} {W : World} {T : TypeId} {n : Nat} (p y : Operand) (g : Nat) (C old : Array Value) (ty : Ty T n) (hn : C.size = n) (h1 : C.all (·.oneCell') = true)
    (hg : Bx W g T old) (hold : old.size = n) (ho : o.op = .store T p y) (hx : a.eval p = .pointer (some ⟨g, 0, none⟩)) (hy : a.eval y = .agg C)
    (hK : K (a.put o.dst undef) (W.setRow g C)) : Oper.wp Try.prog o a W K Q :=
  wp_store_row T p y ho g C hx hy T old hg (by rw [hn]; exact ty.size) (by rw [hn]; exact hold) h1 hK
set_option maxRecDepth 100000 in
/-- a part is loaded, stored, alone -/
theorem wp_loadPw {op : Oper} {a : Act} {K : Act → World → Prop} {Q : Exit → Act → World → Prop} {W : World} {T U : TypeId} {m : Nat} (p : Operand) (g o : Nat) (C D : Array Value) (ty : Ty U m) (hm : D.size = m) (hP : Part C o D)
    (hg : Bx W g T C) (ho : op.op = .load U p) (hx : a.eval p = .pointer (some ⟨g, o, none⟩)) (hK : K (a.put op.dst (.agg D)) W) : Oper.wp Try.prog op a W K Q := by
  obtain ⟨⟨d, hu, hd⟩, hs⟩ := ty
  refine wp_load_mid (P := Try.prog) U p ho g o hx D.toList d (hg.range hP) hu hd (by rw [Array.length_toList, hm]; exact hs) ?_
  simpa using hK
set_option maxRecDepth 100000 in
theorem wp_storePw {op : Oper} {a : Act} {K : Act → World → Prop} {Q : Exit → Act → World → Prop} {W : World} {T U : TypeId} {m : Nat} (p y : Operand) (g o : Nat) (C D : Array Value) (ty : Ty U m) (hm : D.size = m) (h1 : D.all (·.oneCell') = true)
    (hg : Bx W g T C) (hC : o + m ≤ C.size) (ho : op.op = .store U p y) (hx : a.eval p = .pointer (some ⟨g, o, none⟩)) (hy : a.eval y = .agg D) (hK : K (a.put op.dst undef) (W.setCells g o D.toList)) : Oper.wp Try.prog op a W K Q := by
  refine wp_store_mid (P := Try.prog) U p y ho g o D hx hy (fun j hj => ?_) (by rw [hm]; exact ty.size) h1 hK
  refine ⟨?_, hg.thaw _⟩
  rw [hg.cell (Array.getElem?_eq_getElem (show o + j < C.size by omega))]
  rfl
end Go.Proofs.Ytjkkceecagbjjaa
