
/- EnvTells' walk. -/
import Derived.Test.YtjkkceecagbjjaaEnS
namespace Go.Proofs.Ytjkkceecagbjjaa
open Go.RowKit

set_option maxRecDepth 100000 in
set_option maxHeartbeats 4000000 in
theorem envTells_walk (x y : We) (a b : Ev) (W : World) (h64a : Ev64 a) (h64b : Ev64 b) (ha : EnvR W x a) (hb : EnvR W y b) :
    Calls Try.prog 3 #[.agg (envC x a), .agg (envC y b)] W fun e W' => e = .returned (.bool true) ∧ Below W.heap.size W W' := by
  have RA := Lib.hid ha
  have RB := Lib.hid hb
  clear ha hb
  have CF1 := Lib.hid (fun w => few12_any x a w)
  have CF2 := Lib.hid (fun w => few12_any y b w)
  by_cases hfa : fewE a
  case neg =>
    rw [decide_eq_false hfa] at CF1
    clear hfa
    obtain ⟨V0, hV, hb, hg, hj, hs⟩ := bx2 W 25 25 (envC x a) (envC y b)
    have HB := Lib.hid hb
    have A := Lib.hid hg
    have B := Lib.hid hj
    have HV := Lib.hid hV
    have nRA := Lib.hid (RA.out.go hb)
    clear RA
    have RA := nRA
    clear nRA
    have nRB := Lib.hid (RB.out.go hb)
    clear RB
    have RB := nRB
    clear nRB
    have NEAB := Lib.hid (show W.heap.size ≠ W.heap.size + 1 by omega)
    have NEBA := Lib.hid (NEAB.out.symm)
    clear hb hg hj hV hs
    go_enter Try.func3, Try.ntmps3
    go_upto_region 1 with (fail)
    rw [← HV.out]
    clear HV
    go_wp2_with fail
    refine (shown12_any _).mono ?_
    rintro e w1 ⟨rfl, hb⟩
    have nHB := Lib.hid (belG HB.out hb HB.out.size)
    have nRA := Lib.hid (RA.out.go hb)
    have nRB := Lib.hid (RB.out.go hb)
    have nA := Lib.hid (Bx.go A.out hb)
    have nB := Lib.hid (Bx.go B.out hb)
    clear hb
    clear HB RA RB A B
    have HB := nHB
    have RA := nRA
    have RB := nRB
    have A := nA
    have B := nB
    clear nHB nRA nRB nA nB
    go_wp2_with (refine loadX (.tmp 2) W.heap.size (envC x a) tyEnv rfl A.out rfl rfl rfl ?_)
    refine (CF1.out _).mono ?_
    rintro e w2 ⟨rfl, hb⟩
    have nHB := Lib.hid (belG HB.out hb HB.out.size)
    have nRA := Lib.hid (RA.out.go hb)
    have nRB := Lib.hid (RB.out.go hb)
    have nA := Lib.hid (Bx.go A.out hb)
    have nB := Lib.hid (Bx.go B.out hb)
    clear hb
    clear HB RA RB A B
    have HB := nHB
    have RA := nRA
    have RB := nRB
    have A := nA
    have B := nB
    clear nHB nRA nRB nA nB
    go_wp2_with fail
    go_ret
    exact ⟨rfl, HB.out⟩
  by_cases hfb : fewE b
  case neg =>
    rw [decide_eq_true hfa] at CF1
    rw [decide_eq_false hfb] at CF2
    clear hfa hfb
    obtain ⟨V0, hV, hb, hg, hj, hs⟩ := bx2 W 25 25 (envC x a) (envC y b)
    have HB := Lib.hid hb
    have A := Lib.hid hg
    have B := Lib.hid hj
    have HV := Lib.hid hV
    have nRA := Lib.hid (RA.out.go hb)
    clear RA
    have RA := nRA
    clear nRA
    have nRB := Lib.hid (RB.out.go hb)
    clear RB
    have RB := nRB
    clear nRB
    have NEAB := Lib.hid (show W.heap.size ≠ W.heap.size + 1 by omega)
    have NEBA := Lib.hid (NEAB.out.symm)
    clear hb hg hj hV hs
    go_enter Try.func3, Try.ntmps3
    go_upto_region 1 with (fail)
    rw [← HV.out]
    clear HV
    go_wp2_with fail
    refine (shown12_any _).mono ?_
    rintro e w1 ⟨rfl, hb⟩
    have nHB := Lib.hid (belG HB.out hb HB.out.size)
    have nRA := Lib.hid (RA.out.go hb)
    have nRB := Lib.hid (RB.out.go hb)
    have nA := Lib.hid (Bx.go A.out hb)
    have nB := Lib.hid (Bx.go B.out hb)
    clear hb
    clear HB RA RB A B
    have HB := nHB
    have RA := nRA
    have RB := nRB
    have A := nA
    have B := nB
    clear nHB nRA nRB nA nB
    go_wp2_with (refine loadX (.tmp 2) W.heap.size (envC x a) tyEnv rfl A.out rfl rfl rfl ?_)
    refine (CF1.out _).mono ?_
    rintro e w2 ⟨rfl, hb⟩
    have nHB := Lib.hid (belG HB.out hb HB.out.size)
    have nRA := Lib.hid (RA.out.go hb)
    have nRB := Lib.hid (RB.out.go hb)
    have nA := Lib.hid (Bx.go A.out hb)
    have nB := Lib.hid (Bx.go B.out hb)
    clear hb
    clear HB RA RB A B
    have HB := nHB
    have RA := nRA
    have RB := nRB
    have A := nA
    have B := nB
    clear nHB nRA nRB nA nB
    go_wp2_with (refine loadX (.tmp 3) (W.heap.size + 1) (envC y b) tyEnv rfl B.out rfl rfl rfl ?_)
    refine (CF2.out _).mono ?_
    rintro e w3 ⟨rfl, hb⟩
    have nHB := Lib.hid (belG HB.out hb HB.out.size)
    have nRA := Lib.hid (RA.out.go hb)
    have nRB := Lib.hid (RB.out.go hb)
    have nA := Lib.hid (Bx.go A.out hb)
    have nB := Lib.hid (Bx.go B.out hb)
    clear hb
    clear HB RA RB A B
    have HB := nHB
    have RA := nRA
    have RB := nRB
    have A := nA
    have B := nB
    clear nHB nRA nRB nA nB
    go_wp2_with fail
    go_ret
    exact ⟨rfl, HB.out⟩
  rw [decide_eq_true hfa] at CF1
  rw [decide_eq_true hfb] at CF2
  have EI := Lib.hid (fun w h => eInput_any x a w hfa.k h64a h)
  have EW := Lib.hid (fun w h => eWrite_any x a w hfa.k h64a h)
  have ER := Lib.hid (fun w h => eRight_any x a w hfa.k h64a h)
  have ES := Lib.hid (fun w h k => eSame_any x y a b w hfa.k hfb.k h64a h64b h k)
  have DI := Lib.hid (fun w h => input12_any x a w h)
  have DW := Lib.hid (fun w h => write12_any x a w h)
  have DR := Lib.hid (fun w => right12_any x a w)
  have DS := Lib.hid (fun w h k => same12_any x y a b w h k)
  clear hfa hfb h64a h64b
  generalize decide (RightE a) = p at *
  generalize decide (a = b) = q at *
  obtain ⟨li, hli⟩ : ∃ l, l = (inputE a).1 := ⟨_, rfl⟩
  obtain ⟨ni, hni⟩ : ∃ l, l = (inputE a).2 := ⟨_, rfl⟩
  obtain ⟨lw, hlw⟩ : ∃ l, l = (writeE a).1 := ⟨_, rfl⟩
  obtain ⟨nw, hnw⟩ : ∃ l, l = (writeE a).2 := ⟨_, rfl⟩
  rw [← hli, ← hni] at EI DI
  rw [← hlw, ← hnw] at EW DW
  clear hli hni hlw hnw
  have SI := Lib.hid (fun (u v : Wke) w h k => sameE_any u v li li w h k)
  have SW := Lib.hid (fun (u v : Wke) w h k => sameE_any u v lw lw w h k)
  rw [decide_eq_true (rfl : li = li)] at SI
  rw [decide_eq_true (rfl : lw = lw)] at SW
  obtain ⟨V0, hV, hb, hg, hj, hs⟩ := bx2 W 25 25 (envC x a) (envC y b)
  have HB := Lib.hid hb
  have A := Lib.hid hg
  have B := Lib.hid hj
  have HV := Lib.hid hV
  have nRA := Lib.hid (RA.out.go hb)
  clear RA
  have RA := nRA
  clear nRA
  have nRB := Lib.hid (RB.out.go hb)
  clear RB
  have RB := nRB
  clear nRB
  have NEAB := Lib.hid (show W.heap.size ≠ W.heap.size + 1 by omega)
  have NEBA := Lib.hid (NEAB.out.symm)
  clear hb hg hj hV hs
  go_enter Try.func3, Try.ntmps3
  go_upto_region 1 with (fail)
  rw [← HV.out]
  clear HV
  go_wp2_with fail
  refine (shown12_any _).mono ?_
  rintro e w1 ⟨rfl, hb⟩
  have nHB := Lib.hid (belG HB.out hb HB.out.size)
  have nRA := Lib.hid (RA.out.go hb)
  have nRB := Lib.hid (RB.out.go hb)
  have nA := Lib.hid (Bx.go A.out hb)
  have nB := Lib.hid (Bx.go B.out hb)
  clear hb
  clear HB RA RB A B
  have HB := nHB
  have RA := nRA
  have RB := nRB
  have A := nA
  have B := nB
  clear nHB nRA nRB nA nB
  go_wp2_with (refine loadX (.tmp 2) W.heap.size (envC x a) tyEnv rfl A.out rfl rfl rfl ?_)
  refine (CF1.out _).mono ?_
  rintro e w2 ⟨rfl, hb⟩
  have nHB := Lib.hid (belG HB.out hb HB.out.size)
  have nRA := Lib.hid (RA.out.go hb)
  have nRB := Lib.hid (RB.out.go hb)
  have nA := Lib.hid (Bx.go A.out hb)
  have nB := Lib.hid (Bx.go B.out hb)
  clear hb
  clear HB RA RB A B
  have HB := nHB
  have RA := nRA
  have RB := nRB
  have A := nA
  have B := nB
  clear nHB nRA nRB nA nB
  go_wp2_with (refine loadX (.tmp 3) (W.heap.size + 1) (envC y b) tyEnv rfl B.out rfl rfl rfl ?_)
  refine (CF2.out _).mono ?_
  rintro e w3 ⟨rfl, hb⟩
  have nHB := Lib.hid (belG HB.out hb HB.out.size)
  have nRA := Lib.hid (RA.out.go hb)
  have nRB := Lib.hid (RB.out.go hb)
  have nA := Lib.hid (Bx.go A.out hb)
  have nB := Lib.hid (Bx.go B.out hb)
  clear hb
  clear HB RA RB A B
  have HB := nHB
  have RA := nRA
  have RB := nRB
  have A := nA
  have B := nB
  clear nHB nRA nRB nA nB
  go_wp2_with (refine loadX (.tmp 2) W.heap.size (envC x a) tyEnv rfl A.out rfl rfl rfl ?_)
  refine (EI.out _ RA.out).mono ?_
  rintro e w4 ⟨⟨v1, rfl, how⟩, hb⟩
  have nHB := Lib.hid (belG HB.out hb HB.out.size)
  have nRA := Lib.hid (RA.out.go hb)
  have nRB := Lib.hid (RB.out.go hb)
  have nA := Lib.hid (Bx.go A.out hb)
  have nB := Lib.hid (Bx.go B.out hb)
  clear hb
  clear HB RA RB A B
  have HB := nHB
  have RA := nRA
  have RB := nRB
  have A := nA
  have B := nB
  clear nHB nRA nRB nA nB
  obtain ⟨y1, rfl, hk⟩ := how.keyE
  have K1 := Lib.hid hk
  clear hk how
  go_wp2_with (refine loadX (.tmp 2) W.heap.size (envC x a) tyEnv rfl A.out rfl rfl rfl ?_)
  refine (DI.out _ RA.out).mono ?_
  rintro e w5 ⟨⟨v2, rfl, how⟩, hb⟩
  have nHB := Lib.hid (belG HB.out hb HB.out.size)
  have nRA := Lib.hid (RA.out.go hb)
  have nRB := Lib.hid (RB.out.go hb)
  have nK1 := Lib.hid (K1.out.go hb)
  have nA := Lib.hid (Bx.go A.out hb)
  have nB := Lib.hid (Bx.go B.out hb)
  clear hb
  clear HB RA RB K1 A B
  have HB := nHB
  have RA := nRA
  have RB := nRB
  have K1 := nK1
  have A := nA
  have B := nB
  clear nHB nRA nRB nK1 nA nB
  obtain ⟨y2, rfl, hk⟩ := how.keyE
  have K2 := Lib.hid hk
  clear hk how
  go_wp2_with (refine loadX (.tmp 2) W.heap.size (envC x a) tyEnv rfl A.out rfl rfl rfl ?_)
  refine (EW.out _ RA.out).mono ?_
  rintro e w6 ⟨⟨v3, rfl, how⟩, hb⟩
  have nHB := Lib.hid (belG HB.out hb HB.out.size)
  have nRA := Lib.hid (RA.out.go hb)
  have nRB := Lib.hid (RB.out.go hb)
  have nK1 := Lib.hid (K1.out.go hb)
  have nK2 := Lib.hid (K2.out.go hb)
  have nA := Lib.hid (Bx.go A.out hb)
  have nB := Lib.hid (Bx.go B.out hb)
  clear hb
  clear HB RA RB K1 K2 A B
  have HB := nHB
  have RA := nRA
  have RB := nRB
  have K1 := nK1
  have K2 := nK2
  have A := nA
  have B := nB
  clear nHB nRA nRB nK1 nK2 nA nB
  obtain ⟨y3, rfl, hk⟩ := how.keyE
  have K3 := Lib.hid hk
  clear hk how
  go_wp2_with (refine loadX (.tmp 2) W.heap.size (envC x a) tyEnv rfl A.out rfl rfl rfl ?_)
  refine (DW.out _ RA.out).mono ?_
  rintro e w7 ⟨⟨v4, rfl, how⟩, hb⟩
  have nHB := Lib.hid (belG HB.out hb HB.out.size)
  have nRA := Lib.hid (RA.out.go hb)
  have nRB := Lib.hid (RB.out.go hb)
  have nK1 := Lib.hid (K1.out.go hb)
  have nK2 := Lib.hid (K2.out.go hb)
  have nK3 := Lib.hid (K3.out.go hb)
  have nA := Lib.hid (Bx.go A.out hb)
  have nB := Lib.hid (Bx.go B.out hb)
  clear hb
  clear HB RA RB K1 K2 K3 A B
  have HB := nHB
  have RA := nRA
  have RB := nRB
  have K1 := nK1
  have K2 := nK2
  have K3 := nK3
  have A := nA
  have B := nB
  clear nHB nRA nRB nK1 nK2 nK3 nA nB
  obtain ⟨y4, rfl, hk⟩ := how.keyE
  have K4 := Lib.hid hk
  clear hk how
  go_upto_region 8 with fail
  have BB0 := Lib.hid ((Below.refl w7.heap.size w7).drew)
  have KEEP := Lib.hid (fun w' (hW : Below w7.heap.size w7 w') => (show Below w7.heap.size w7 w' from hW))
  refine wp_region_noPanic ?_
  refine wp_region_held_drew (S := fun w' => Below w7.heap.size w7 w') (by kernel_rfl) (KEEP.out _ BB0.out) (fun hHeld => ?_)
  obtain ⟨wz0, hwz⟩ : ∃ x, x = w7.drew := ⟨_, rfl⟩
  rw [← hwz] at BB0 hHeld ⊢
  clear hwz
  refine wpAnyH_take (i := 0) (oi := ?_) (v := ?_) ?_ (by kernel_rfl) (by decide +kernel) (by decide +kernel) (fun _ _ _ h => h) ?_ (by assumption) ?_
  rotate_left 2
  focus (simp only [List.getElem?_toArray, List.getElem?_cons_zero] <;> rfl)
  · refine Or.inl ⟨by rfl, ?_⟩
    intro w hSw
    (try dsimp only at hSw)
    go_simp <;> with_reducible rfl
  (try simp only [Act.put, List.setIfInBounds_toArray, List.set_cons_zero, List.set_cons_succ])
  refine wpAnyH_take (i := 1) (oi := ?_) (v := ?_) ?_ (by kernel_rfl) (by decide +kernel) (by decide +kernel) (fun _ _ _ h => h) ?_ (by assumption) ?_
  rotate_left 2
  focus (simp only [List.getElem?_toArray, List.getElem?_cons_succ, List.getElem?_cons_zero] <;> rfl)
  · refine Or.inl ⟨by rfl, ?_⟩
    intro w hSw
    (try dsimp only at hSw)
    go_simp <;> with_reducible rfl
  (try simp only [Act.put, List.setIfInBounds_toArray, List.set_cons_zero, List.set_cons_succ])
  refine wpAnyH_take (i := 2) (oi := ?_) (v := ?_) ?_ (by kernel_rfl) (by decide +kernel) (by decide +kernel) (fun _ _ _ h => h) ?_ (by assumption) ?_
  rotate_left 2
  focus (simp only [List.getElem?_toArray, List.getElem?_cons_succ, List.getElem?_cons_zero] <;> rfl)
  · refine Or.inl ⟨by rfl, ?_⟩
    intro w hSw
    (try dsimp only at hSw)
    go_simp <;> with_reducible rfl
  (try simp only [Act.put, List.setIfInBounds_toArray, List.set_cons_zero, List.set_cons_succ])
  refine wpAnyH_take (i := 3) (oi := ?_) (v := ?_) ?_ (by kernel_rfl) (by decide +kernel) (by decide +kernel) (fun _ _ _ h => h) ?_ (by assumption) ?_
  rotate_left 2
  focus (simp only [List.getElem?_toArray, List.getElem?_cons_succ, List.getElem?_cons_zero] <;> rfl)
  · refine Or.inl ⟨by rfl, ?_⟩
    intro w hSw
    (try dsimp only at hSw)
    go_simp <;> with_reducible rfl
  (try simp only [Act.put, List.setIfInBounds_toArray, List.set_cons_zero, List.set_cons_succ])
  refine wpAnyH_ready (rs := [4]) (by decide +kernel) (by simp) ?_
  refine AllReadyH.cons rfl (fun K hK => ?_) AllReadyH.nil
  go_simp
  go_at_call 15
  refine (SI.out y1 y2 _ (K1.out.go BB0.out) (K2.out.go BB0.out)).mono ?_
  rintro e wz1 ⟨rfl, hw⟩
  obtain rfl := hw
  refine hK.out _ _ (KEEP.out _ BB0.out) (fun hHeld => ?_)
  clear hK K
  (try simp only [Act.put, List.setIfInBounds_toArray, List.set_cons_zero, List.set_cons_succ])
  refine wpAnyH_take (i := 5) (oi := ?_) (v := ?_) ?_ (by kernel_rfl) (by decide +kernel) (by decide +kernel) (fun _ _ _ h => h) ?_ (by assumption) ?_
  rotate_left 2
  focus (simp only [List.getElem?_toArray, List.getElem?_cons_succ, List.getElem?_cons_zero] <;> rfl)
  · refine Or.inl ⟨by rfl, ?_⟩
    intro w hSw
    (try dsimp only at hSw)
    go_simp <;> with_reducible rfl
  (try simp only [Act.put, List.setIfInBounds_toArray, List.set_cons_zero, List.set_cons_succ])
  refine wpAnyH_take (i := 6) (oi := ?_) (v := ?_) ?_ (by kernel_rfl) (by decide +kernel) (by decide +kernel) (fun _ _ _ h => h) ?_ (by assumption) ?_
  rotate_left 2
  focus (simp only [List.getElem?_toArray, List.getElem?_cons_succ, List.getElem?_cons_zero] <;> rfl)
  · refine Or.inl ⟨by rfl, ?_⟩
    intro w hSw
    (try dsimp only at hSw)
    go_simp <;> with_reducible rfl
  (try simp only [Act.put, List.setIfInBounds_toArray, List.set_cons_zero, List.set_cons_succ])
  refine wpAnyH_take (i := 7) (oi := ?_) (v := ?_) ?_ (by kernel_rfl) (by decide +kernel) (by decide +kernel) (fun _ _ _ h => h) ?_ (by assumption) ?_
  rotate_left 2
  focus (simp only [List.getElem?_toArray, List.getElem?_cons_succ, List.getElem?_cons_zero] <;> rfl)
  · refine Or.inl ⟨by rfl, ?_⟩
    intro w hSw
    (try dsimp only at hSw)
    go_simp <;> with_reducible rfl
  (try simp only [Act.put, List.setIfInBounds_toArray, List.set_cons_zero, List.set_cons_succ])
  refine wpAnyH_take (i := 8) (oi := ?_) (v := ?_) ?_ (by kernel_rfl) (by decide +kernel) (by decide +kernel) (fun _ _ _ h => h) ?_ (by assumption) ?_
  rotate_left 2
  focus (simp only [List.getElem?_toArray, List.getElem?_cons_succ, List.getElem?_cons_zero] <;> rfl)
  · refine Or.inl ⟨by rfl, ?_⟩
    intro w hSw
    (try dsimp only at hSw)
    go_simp <;> with_reducible rfl
  (try simp only [Act.put, List.setIfInBounds_toArray, List.set_cons_zero, List.set_cons_succ])
  refine wpAnyH_take (i := 9) (oi := ?_) (v := ?_) ?_ (by kernel_rfl) (by decide +kernel) (by decide +kernel) (fun _ _ _ h => h) ?_ (by assumption) ?_
  rotate_left 2
  focus (simp only [List.getElem?_toArray, List.getElem?_cons_succ, List.getElem?_cons_zero] <;> rfl)
  · refine Or.inl ⟨by rfl, ?_⟩
    intro w hSw
    (try dsimp only at hSw)
    go_simp <;> with_reducible rfl
  (try simp only [Act.put, List.setIfInBounds_toArray, List.set_cons_zero, List.set_cons_succ])
  refine wpAnyH_take (i := 10) (oi := ?_) (v := ?_) ?_ (by kernel_rfl) (by decide +kernel) (by decide +kernel) (fun _ _ _ h => h) ?_ (by assumption) ?_
  rotate_left 2
  focus (simp only [List.getElem?_toArray, List.getElem?_cons_succ, List.getElem?_cons_zero] <;> rfl)
  · refine Or.inl ⟨by rfl, ?_⟩
    intro w hSw
    (try dsimp only at hSw)
    go_simp <;> with_reducible rfl
  (try simp only [Act.put, List.setIfInBounds_toArray, List.set_cons_zero, List.set_cons_succ])
  refine wpAnyH_take (i := 11) (oi := ?_) (v := ?_) ?_ (by kernel_rfl) (by decide +kernel) (by decide +kernel) (fun _ _ _ h => h) ?_ (by assumption) ?_
  rotate_left 2
  focus (simp only [List.getElem?_toArray, List.getElem?_cons_succ, List.getElem?_cons_zero] <;> rfl)
  · refine Or.inl ⟨by rfl, ?_⟩
    intro w hSw
    (try dsimp only at hSw)
    go_simp <;> with_reducible rfl
  (try simp only [Act.put, List.setIfInBounds_toArray, List.set_cons_zero, List.set_cons_succ])
  refine wpAnyH_take (i := 12) (oi := ?_) (v := ?_) ?_ (by kernel_rfl) (by decide +kernel) (by decide +kernel) (fun _ _ _ h => h) ?_ (by assumption) ?_
  rotate_left 2
  focus (simp only [List.getElem?_toArray, List.getElem?_cons_succ, List.getElem?_cons_zero] <;> rfl)
  · refine Or.inl ⟨by rfl, ?_⟩
    intro w hSw
    (try dsimp only at hSw)
    go_simp <;> with_reducible rfl
  (try simp only [Act.put, List.setIfInBounds_toArray, List.set_cons_zero, List.set_cons_succ])
  refine wpAnyH_take (i := 13) (oi := ?_) (v := ?_) ?_ (by kernel_rfl) (by decide +kernel) (by decide +kernel) (fun _ _ _ h => h) ?_ (by assumption) ?_
  rotate_left 2
  focus (simp only [List.getElem?_toArray, List.getElem?_cons_succ, List.getElem?_cons_zero] <;> rfl)
  · refine Or.inl ⟨by rfl, ?_⟩
    intro w hSw
    (try dsimp only at hSw)
    go_simp <;> with_reducible rfl
  (try simp only [Act.put, List.setIfInBounds_toArray, List.set_cons_zero, List.set_cons_succ])
  refine wpAnyH_ready (rs := [14]) (by decide +kernel) (by simp) ?_
  refine AllReadyH.cons rfl (fun K hK => ?_) AllReadyH.nil
  go_simp
  go_at_call 15
  refine (SW.out y3 y4 _ (K3.out.go BB0.out) (K4.out.go BB0.out)).mono ?_
  rintro e wz2 ⟨rfl, hw⟩
  obtain rfl := hw
  refine hK.out _ _ (KEEP.out _ BB0.out) (fun hHeld => ?_)
  clear hK K
  (try simp only [Act.put, List.setIfInBounds_toArray, List.set_cons_zero, List.set_cons_succ])
  refine wpAnyH_take (i := 15) (oi := ?_) (v := ?_) ?_ (by kernel_rfl) (by decide +kernel) (by decide +kernel) (fun _ _ _ h => h) ?_ (by assumption) ?_
  rotate_left 2
  focus (simp only [List.getElem?_toArray, List.getElem?_cons_succ, List.getElem?_cons_zero] <;> rfl)
  · refine Or.inl ⟨by rfl, ?_⟩
    intro w hSw
    (try dsimp only at hSw)
    go_simp <;> with_reducible rfl
  (try simp only [Act.put, List.setIfInBounds_toArray, List.set_cons_zero, List.set_cons_succ])
  refine wpAnyH_take (i := 16) (oi := ?_) (v := ?_) ?_ (by kernel_rfl) (by decide +kernel) (by decide +kernel) (fun _ _ _ h => h) ?_ (by assumption) ?_
  rotate_left 2
  focus (simp only [List.getElem?_toArray, List.getElem?_cons_succ, List.getElem?_cons_zero] <;> rfl)
  · refine Or.inl ⟨by rfl, ?_⟩
    intro w hSw
    (try dsimp only at hSw)
    go_simp <;> with_reducible rfl
  (try simp only [Act.put, List.setIfInBounds_toArray, List.set_cons_zero, List.set_cons_succ])
  refine wpAnyH_take (i := 17) (oi := ?_) (v := ?_) ?_ (by kernel_rfl) (by decide +kernel) (by decide +kernel) (fun _ _ _ h => h) ?_ (by assumption) ?_
  rotate_left 2
  focus (simp only [List.getElem?_toArray, List.getElem?_cons_succ, List.getElem?_cons_zero] <;> rfl)
  · refine Or.inl ⟨by rfl, ?_⟩
    intro w hSw
    (try dsimp only at hSw)
    go_simp <;> with_reducible rfl
  (try simp only [Act.put, List.setIfInBounds_toArray, List.set_cons_zero, List.set_cons_succ])
  refine wpAnyH_take (i := 18) (oi := ?_) (v := ?_) ?_ (by kernel_rfl) (by decide +kernel) (by decide +kernel) (fun _ _ _ h => h) ?_ (by assumption) ?_
  rotate_left 2
  focus (simp only [List.getElem?_toArray, List.getElem?_cons_succ, List.getElem?_cons_zero] <;> rfl)
  · refine Or.inl ⟨by rfl, ?_⟩
    intro w hSw
    (try dsimp only at hSw)
    go_simp <;> with_reducible rfl
  (try simp only [Act.put, List.setIfInBounds_toArray, List.set_cons_zero, List.set_cons_succ])
  refine wpAnyH_take (i := 19) (oi := ?_) (v := ?_) ?_ (by kernel_rfl) (by decide +kernel) (by decide +kernel) (fun _ _ _ h => h) ?_ (by assumption) ?_
  rotate_left 2
  focus (simp only [List.getElem?_toArray, List.getElem?_cons_succ, List.getElem?_cons_zero] <;> rfl)
  · refine Or.inl ⟨by rfl, ?_⟩
    intro w hSw
    (try dsimp only at hSw)
    go_simp <;> with_reducible rfl
  (try simp only [Act.put, List.setIfInBounds_toArray, List.set_cons_zero, List.set_cons_succ])
  refine wpAnyH_take (i := 20) (oi := ?_) (v := ?_) ?_ (by kernel_rfl) (by decide +kernel) (by decide +kernel) (fun _ _ _ h => h) ?_ (by assumption) ?_
  rotate_left 2
  focus (simp only [List.getElem?_toArray, List.getElem?_cons_succ, List.getElem?_cons_zero] <;> rfl)
  · refine Or.inl ⟨by rfl, ?_⟩
    intro w hSw
    (try dsimp only at hSw)
    go_simp <;> with_reducible rfl
  (try simp only [Act.put, List.setIfInBounds_toArray, List.set_cons_zero, List.set_cons_succ])
  refine wpAnyH_take (i := 21) (oi := ?_) (v := ?_) ?_ (by kernel_rfl) (by decide +kernel) (by decide +kernel) (fun _ _ _ h => h) ?_ (by assumption) ?_
  rotate_left 2
  focus (simp only [List.getElem?_toArray, List.getElem?_cons_succ, List.getElem?_cons_zero] <;> rfl)
  · refine Or.inl ⟨by rfl, ?_⟩
    intro w hSw
    (try dsimp only at hSw)
    go_simp <;> with_reducible rfl
  (try simp only [Act.put, List.setIfInBounds_toArray, List.set_cons_zero, List.set_cons_succ])
  refine wpAnyH_take (i := 22) (oi := ?_) (v := .agg (envC x a)) ?_ (by kernel_rfl) (by decide +kernel) (by decide +kernel) (fun _ _ _ h => h) ?_ (by assumption) ?_
  rotate_left 1
  focus (simp only [List.getElem?_toArray, List.getElem?_cons_succ, List.getElem?_cons_zero] <;> rfl)
  · refine yieldsX (T := 25) ?_ (.tmp 2) ?_ ⟨W.heap.size, 0, none⟩ ?_ (envC x a) ?_
    focus rfl
    focus exact rfl
    focus exact rfl
    exact fun w hSw => run_loadX tyEnv rfl (Bx.go A.out hSw)
  (try simp only [Act.put, List.setIfInBounds_toArray, List.set_cons_zero, List.set_cons_succ])
  refine wpAnyH_take (i := 24) (oi := ?_) (v := .agg (envC x a)) ?_ (by kernel_rfl) (by decide +kernel) (by decide +kernel) (fun _ _ _ h => h) ?_ (by assumption) ?_
  rotate_left 1
  focus (simp only [List.getElem?_toArray, List.getElem?_cons_succ, List.getElem?_cons_zero] <;> rfl)
  · refine yieldsX (T := 25) ?_ (.tmp 2) ?_ ⟨W.heap.size, 0, none⟩ ?_ (envC x a) ?_
    focus rfl
    focus exact rfl
    focus exact rfl
    exact fun w hSw => run_loadX tyEnv rfl (Bx.go A.out hSw)
  (try simp only [Act.put, List.setIfInBounds_toArray, List.set_cons_zero, List.set_cons_succ])
  refine wpAnyH_ready (rs := [23]) (by decide +kernel) (by simp) ?_
  refine AllReadyH.cons rfl (fun K hK => ?_) AllReadyH.nil
  go_simp
  go_at_call 16
  refine (ER.out _ (RA.out.go BB0.out)).mono ?_
  rintro e wz3 ⟨rfl, hb⟩
  have BB3 := Lib.hid (belG BB0.out hb BB0.out.size)
  clear hb
  refine hK.out _ _ (KEEP.out _ BB3.out) (fun hHeld => ?_)
  clear hK K
  (try simp only [Act.put, List.setIfInBounds_toArray, List.set_cons_zero, List.set_cons_succ])
  refine wpAnyH_ready (rs := [25]) (by decide +kernel) (by simp) ?_
  refine AllReadyH.cons rfl (fun K hK => ?_) AllReadyH.nil
  go_simp
  go_at_call 17
  refine (DR.out _).mono ?_
  rintro e wz4 ⟨rfl, hb⟩
  have BB4 := Lib.hid (belG BB3.out hb BB3.out.size)
  clear hb
  refine hK.out _ _ (KEEP.out _ BB4.out) (fun hHeld => ?_)
  clear hK K
  (try simp only [Act.put, List.setIfInBounds_toArray, List.set_cons_zero, List.set_cons_succ])
  refine wpAnyH_take (i := 26) (oi := ?_) (v := ?_) ?_ (by kernel_rfl) (by decide +kernel) (by decide +kernel) (fun _ _ _ h => h) ?_ (by assumption) ?_
  rotate_left 2
  focus (simp only [List.getElem?_toArray, List.getElem?_cons_succ, List.getElem?_cons_zero] <;> rfl)
  · refine Or.inl ⟨by rfl, ?_⟩
    intro w hSw
    (try dsimp only at hSw)
    go_simp <;> with_reducible rfl
  (try simp only [Act.put, List.setIfInBounds_toArray, List.set_cons_zero, List.set_cons_succ])
  refine wpAnyH_take (i := 27) (oi := ?_) (v := ?_) ?_ (by kernel_rfl) (by decide +kernel) (by decide +kernel) (fun _ _ _ h => h) ?_ (by assumption) ?_
  rotate_left 2
  focus (simp only [List.getElem?_toArray, List.getElem?_cons_succ, List.getElem?_cons_zero] <;> rfl)
  · refine Or.inl ⟨by rfl, ?_⟩
    intro w hSw
    (try dsimp only at hSw)
    go_simp <;> with_reducible rfl
  (try simp only [Act.put, List.setIfInBounds_toArray, List.set_cons_zero, List.set_cons_succ])
  refine wpAnyH_take (i := 28) (oi := ?_) (v := ?_) ?_ (by kernel_rfl) (by decide +kernel) (by decide +kernel) (fun _ _ _ h => h) ?_ (by assumption) ?_
  rotate_left 2
  focus (simp only [List.getElem?_toArray, List.getElem?_cons_succ, List.getElem?_cons_zero] <;> rfl)
  · refine Or.inl ⟨by rfl, ?_⟩
    intro w hSw
    (try dsimp only at hSw)
    go_simp <;> with_reducible rfl
  (try simp only [Act.put, List.setIfInBounds_toArray, List.set_cons_zero, List.set_cons_succ])
  refine wpAnyH_take (i := 29) (oi := ?_) (v := .agg (envC x a)) ?_ (by kernel_rfl) (by decide +kernel) (by decide +kernel) (fun _ _ _ h => h) ?_ (by assumption) ?_
  rotate_left 1
  focus (simp only [List.getElem?_toArray, List.getElem?_cons_succ, List.getElem?_cons_zero] <;> rfl)
  · refine yieldsX (T := 25) ?_ (.tmp 2) ?_ ⟨W.heap.size, 0, none⟩ ?_ (envC x a) ?_
    focus rfl
    focus exact rfl
    focus exact rfl
    exact fun w hSw => run_loadX tyEnv rfl (Bx.go A.out hSw)
  (try simp only [Act.put, List.setIfInBounds_toArray, List.set_cons_zero, List.set_cons_succ])
  refine wpAnyH_take (i := 30) (oi := ?_) (v := .agg (envC y b)) ?_ (by kernel_rfl) (by decide +kernel) (by decide +kernel) (fun _ _ _ h => h) ?_ (by assumption) ?_
  rotate_left 1
  focus (simp only [List.getElem?_toArray, List.getElem?_cons_succ, List.getElem?_cons_zero] <;> rfl)
  · refine yieldsX (T := 25) ?_ (.tmp 3) ?_ ⟨(W.heap.size + 1), 0, none⟩ ?_ (envC y b) ?_
    focus rfl
    focus exact rfl
    focus exact rfl
    exact fun w hSw => run_loadX tyEnv rfl (Bx.go B.out hSw)
  (try simp only [Act.put, List.setIfInBounds_toArray, List.set_cons_zero, List.set_cons_succ])
  refine wpAnyH_take (i := 32) (oi := ?_) (v := .agg (envC x a)) ?_ (by kernel_rfl) (by decide +kernel) (by decide +kernel) (fun _ _ _ h => h) ?_ (by assumption) ?_
  rotate_left 1
  focus (simp only [List.getElem?_toArray, List.getElem?_cons_succ, List.getElem?_cons_zero] <;> rfl)
  · refine yieldsX (T := 25) ?_ (.tmp 2) ?_ ⟨W.heap.size, 0, none⟩ ?_ (envC x a) ?_
    focus rfl
    focus exact rfl
    focus exact rfl
    exact fun w hSw => run_loadX tyEnv rfl (Bx.go A.out hSw)
  (try simp only [Act.put, List.setIfInBounds_toArray, List.set_cons_zero, List.set_cons_succ])
  refine wpAnyH_take (i := 33) (oi := ?_) (v := .agg (envC y b)) ?_ (by kernel_rfl) (by decide +kernel) (by decide +kernel) (fun _ _ _ h => h) ?_ (by assumption) ?_
  rotate_left 1
  focus (simp only [List.getElem?_toArray, List.getElem?_cons_succ, List.getElem?_cons_zero] <;> rfl)
  · refine yieldsX (T := 25) ?_ (.tmp 3) ?_ ⟨(W.heap.size + 1), 0, none⟩ ?_ (envC y b) ?_
    focus rfl
    focus exact rfl
    focus exact rfl
    exact fun w hSw => run_loadX tyEnv rfl (Bx.go B.out hSw)
  (try simp only [Act.put, List.setIfInBounds_toArray, List.set_cons_zero, List.set_cons_succ])
  refine wpAnyH_ready (rs := [31]) (by decide +kernel) (by simp) ?_
  refine AllReadyH.cons rfl (fun K hK => ?_) AllReadyH.nil
  go_simp
  go_at_call 18
  refine (ES.out _ (RA.out.go BB4.out) (RB.out.go BB4.out)).mono ?_
  rintro e wz5 ⟨rfl, hb⟩
  have BB5 := Lib.hid (belG BB4.out hb BB4.out.size)
  clear hb
  refine hK.out _ _ (KEEP.out _ BB5.out) (fun hHeld => ?_)
  clear hK K
  (try simp only [Act.put, List.setIfInBounds_toArray, List.set_cons_zero, List.set_cons_succ])
  refine wpAnyH_ready (rs := [34]) (by decide +kernel) (by simp) ?_
  refine AllReadyH.cons rfl (fun K hK => ?_) AllReadyH.nil
  go_simp
  go_at_call 19
  refine (DS.out _ (RA.out.go BB5.out) (RB.out.go BB5.out)).mono ?_
  rintro e wz6 ⟨rfl, hb⟩
  have BB6 := Lib.hid (belG BB5.out hb BB5.out.size)
  clear hb
  refine hK.out _ _ (KEEP.out _ BB6.out) (fun hHeld => ?_)
  clear hK K
  (try simp only [Act.put, List.setIfInBounds_toArray, List.set_cons_zero, List.set_cons_succ])
  refine wpAnyH_take (i := 35) (oi := ?_) (v := ?_) ?_ (by kernel_rfl) (by decide +kernel) (by decide +kernel) (fun _ _ _ h => h) ?_ (by assumption) ?_
  rotate_left 2
  focus (simp only [List.getElem?_toArray, List.getElem?_cons_succ, List.getElem?_cons_zero] <;> rfl)
  · refine Or.inl ⟨by rfl, ?_⟩
    intro w hSw
    (try dsimp only at hSw)
    go_simp <;> with_reducible rfl
  (try simp only [Act.put, List.setIfInBounds_toArray, List.set_cons_zero, List.set_cons_succ])
  refine wpAnyH_take (i := 36) (oi := ?_) (v := ?_) ?_ (by kernel_rfl) (by decide +kernel) (by decide +kernel) (fun _ _ _ h => h) ?_ (by assumption) ?_
  rotate_left 2
  focus (simp only [List.getElem?_toArray, List.getElem?_cons_succ, List.getElem?_cons_zero] <;> rfl)
  · refine Or.inl ⟨by rfl, ?_⟩
    intro w hSw
    (try dsimp only at hSw)
    go_simp <;> with_reducible rfl
  (try simp only [Act.put, List.setIfInBounds_toArray, List.set_cons_zero, List.set_cons_succ])
  refine wpAnyH_take (i := 37) (oi := ?_) (v := ?_) ?_ (by kernel_rfl) (by decide +kernel) (by decide +kernel) (fun _ _ _ h => h) ?_ (by assumption) ?_
  rotate_left 2
  focus (simp only [List.getElem?_toArray, List.getElem?_cons_succ, List.getElem?_cons_zero] <;> rfl)
  · refine Or.inl ⟨by rfl, ?_⟩
    intro w hSw
    (try dsimp only at hSw)
    go_simp <;> with_reducible rfl
  (try simp only [Act.put, List.setIfInBounds_toArray, List.set_cons_zero, List.set_cons_succ])
  refine wpAnyH_done (by decide +kernel) ?_ _
  refine NoPanic.normal ?_
  clear KEEP
  go_wp2_with fail
  go_ret
  exact ⟨by first | rfl | (simp; done), belG HB.out BB6.out HB.out.size⟩
set_option maxRecDepth 100000 in
theorem envTells_walkI (x : We) (a : Ev) (y : We) (b : Ev) (W : World) (h64a : Ev64 a) (ha : EnvR W x a) (h64b : Ev64 b) (hb : EnvR W y b) :
    Calls Try.prog 3 #[.agg (envC x a), .agg (envC y b)] W fun e W' => e = .returned (.bool true) ∧ Below W.heap.size W W' := envTells_walk x y a b W h64a h64b ha hb
end Go.Proofs.Ytjkkceecagbjjaa
