
/- RingNext's walk. -/
import Derived.Test.YtgnccfcdonoegaaJ12
namespace Go.Proofs.Ytgnccfcdonoegaa
open Go.RowKit

set_option maxRecDepth 100000 in
theorem next_cases {r : Rg} (b : UInt8) (h : RightR r) :
    (r = rg0 ∧ nextR r = (0, 9)) ∨ (r ≠ rg0 ∧ r.top = 2147483647 ∧ nextR r = (0, 10)) ∨
    (1 ≤ r.top ∧ r.top < 2147483647 ∧ nextR r = (r.top + 1, 0) ∧ (offerR r (r.top + 1) (keyL b)).2 = 0 ∧ findR r (r.top + 1) = ([], false) ∧
      findR (withdrawR (offerR r (r.top + 1) (keyL b)).1) (r.top + 1) = ([], false) ∧ (withdrawR (offerR r (r.top + 1) (keyL b)).1).top = r.top + 1 ∧
      ((r.top + 1 < 2147483647 ∧ nextR (withdrawR (offerR r (r.top + 1) (keyL b)).1) = (r.top + 1 + 1, 0)) ∨ (r.top + 1 = 2147483647 ∧ nextR (withdrawR (offerR r (r.top + 1) (keyL b)).1) = (0, 10)))) := by
  by_cases h0 : r = rg0
  · exact .inl ⟨h0, by unfold nextR; rw [if_pos h0]⟩
  · rcases h with h | ⟨a1, a2, a3, a4, a5, a6⟩
    · exact absurd h h0
    have c1 := a1.1
    have ho : r.old.no < r.cur.no := by
      rcases a5 with a5 | a5
      · rw [a5.1]; show (0 : Int) < _; omega
      · exact a5.2.1
    by_cases ht : r.top = 2147483647
    · exact .inr (.inl ⟨h0, ht, by unfold nextR; rw [if_neg h0, if_pos (by omega)]⟩)
    · have e : offerR r (r.top + 1) (keyL b) = ({ r with pend := ⟨r.top + 1, keyL b⟩, top := max r.top (r.top + 1) }, 0) := by
        unfold offerR
        rw [if_neg (by
          rintro (k | k | k)
          · exact k (keyL_len b)
          · omega
          · omega), if_neg (by
          rintro (k | k | k)
          · exact h0 k
          · omega
          · omega)]
      have em : max r.top (r.top + 1) = r.top + 1 := by omega
      have hw : withdrawR (offerR r (r.top + 1) (keyL b)).1 = ⟨r.cur, r.old, gn0, r.left, r.top + 1⟩ := by rw [e, em]; rfl
      have hw0 : (⟨r.cur, r.old, gn0, r.left, r.top + 1⟩ : Rg) ≠ rg0 := fun k => by
        have k1 : r.top + 1 = 0 := congrArg Rg.top k
        omega
      refine .inr (.inr ⟨by omega, by omega, by unfold nextR; rw [if_neg h0, if_neg (by omega)], by rw [e], ?_, ?_, by rw [hw], ?_⟩)
      · unfold findR
        rw [if_neg (by omega), if_neg (show ¬ r.cur.no = r.top + 1 by omega), if_neg (show ¬ r.old.no = r.top + 1 by omega), if_neg (show ¬ r.pend.no = r.top + 1 by omega)]
      · rw [hw]
        unfold findR
        rw [if_neg (by omega), if_neg (show ¬ r.cur.no = r.top + 1 by omega), if_neg (show ¬ r.old.no = r.top + 1 by omega)]
        show (if (0 : Int) = r.top + 1 then _ else _) = _
        rw [if_neg (by omega)]
      · rw [hw]
        unfold nextR
        by_cases hg : r.top + 1 = 2147483647
        · exact .inr ⟨hg, by rw [if_neg hw0, if_pos (show 2147483647 ≤ r.top + 1 by omega)]⟩
        · exact .inl ⟨by omega, by rw [if_neg hw0, if_neg (show ¬ 2147483647 ≤ r.top + 1 by omega)]⟩
set_option maxRecDepth 100000 in
set_option maxHeartbeats 4000000 in
theorem ringNext_walk (xa : Wg) (r : Rg) (a : UInt8) (W : World) (ha64 : Rg64 r) (hra : RingR W xa r) :
    Calls Try.prog 7 #[.agg (ringC xa r), .int .u8 (a.toNat : Nat)] W fun e W' => e = .returned (.bool true) ∧ Below W.heap.size W W' := by
  have RA := Lib.hid hra
  clear hra
  obtain ⟨na, hna⟩ : ∃ n, n = a.toNat := ⟨_, rfl⟩
  rw [← hna]
  have KA := Lib.hid (fun w => (show Calls Try.prog 29 #[.int .u8 (na : Nat)] w fun e W' => (∃ y : Wk, e = .returned (.slice y.1 32 y.2) ∧ KeyR W' y (keyL a)) ∧ Below w.heap.size w W' from by rw [hna]; exact key_any a w))
  clear hna
  have HFA := Lib.hid (fun w => few11_any xa r w)
  have HRA := Lib.hid (fun w => right11_any xa r w)
  have H64 := Lib.hid ha64
  have CEM := Lib.hid (fun w => empty11_any xa r w)
  clear ha64
  obtain ⟨CC, hCC⟩ : ∃ CC, CC = ringC xa r := ⟨_, rfl⟩
  have HCC := Lib.hid hCC
  rw [← hCC]
  clear hCC
  obtain ⟨V0, hV, hb, hg⟩ := bx1 W 26 CC
  have HB := Lib.hid hb
  have G2 := Lib.hid hg
  have HV := Lib.hid hV
  have nRA := Lib.hid (RA.out.go hb)
  clear RA
  have RA := nRA
  clear nRA
  clear hb hg hV
  go_enter Try.func7, Try.ntmps7
  go_upto_region 1 with (fail)
  rw [← HV.out]
  clear HV
  rw [HCC.out] at G2
  go_wp2_with fail
  refine (shown11_any _).mono ?_
  rintro e w1 ⟨rfl, hb⟩
  have nHB := Lib.hid (belG HB.out hb HB.out.size)
  have nRA := Lib.hid (RA.out.go hb)
  have nG2 := Lib.hid (Bx.go G2.out hb)
  clear hb
  clear HB RA G2
  have HB := nHB
  have RA := nRA
  have G2 := nG2
  clear nHB nRA nG2
  go_upto_region 2 with fail
  by_cases hfa : fewR r
  case neg =>
    rw [decide_eq_false hfa] at HFA
    go_wp2_with (refine loadX (.tmp 2) W.heap.size (ringC xa r) tyRing rfl G2.out rfl rfl rfl ?_)
    refine (HFA.out _).mono ?_
    rintro e w2 ⟨rfl, hb⟩
    have nHB := Lib.hid (belG HB.out hb HB.out.size)
    have nRA := Lib.hid (RA.out.go hb)
    have nG2 := Lib.hid (Bx.go G2.out hb)
    clear hb
    clear HB RA G2
    have HB := nHB
    have RA := nRA
    have G2 := nG2
    clear nHB nRA nG2
    go_wp2_with fail
    go_ret
    exact ⟨rfl, HB.out⟩
  rw [decide_eq_true hfa] at HFA
  by_cases hR : RightR r
  case neg =>
    rw [decide_eq_false hR] at HRA
    go_wp2_with (refine loadX (.tmp 2) W.heap.size (ringC xa r) tyRing rfl G2.out rfl rfl rfl ?_)
    refine (HFA.out _).mono ?_
    rintro e w2 ⟨rfl, hb⟩
    have nHB := Lib.hid (belG HB.out hb HB.out.size)
    have nRA := Lib.hid (RA.out.go hb)
    have nG2 := Lib.hid (Bx.go G2.out hb)
    clear hb
    clear HB RA G2
    have HB := nHB
    have RA := nRA
    have G2 := nG2
    clear nHB nRA nG2
    go_wp2_with (refine loadX (.tmp 2) W.heap.size (ringC xa r) tyRing rfl G2.out rfl rfl rfl ?_)
    refine (HRA.out _).mono ?_
    rintro e w3 ⟨rfl, hb⟩
    have nHB := Lib.hid (belG HB.out hb HB.out.size)
    have nRA := Lib.hid (RA.out.go hb)
    have nG2 := Lib.hid (Bx.go G2.out hb)
    clear hb
    clear HB RA G2
    have HB := nHB
    have RA := nRA
    have G2 := nG2
    clear nHB nRA nG2
    go_wp2_with fail
    go_ret
    exact ⟨rfl, HB.out⟩
  rw [decide_eq_true hR] at HRA
  go_wp2_with (refine loadX (.tmp 2) W.heap.size (ringC xa r) tyRing rfl G2.out rfl rfl rfl ?_)
  refine (HFA.out _).mono ?_
  rintro e w2 ⟨rfl, hb⟩
  have nHB := Lib.hid (belG HB.out hb HB.out.size)
  have nRA := Lib.hid (RA.out.go hb)
  have nG2 := Lib.hid (Bx.go G2.out hb)
  clear hb
  clear HB RA G2
  have HB := nHB
  have RA := nRA
  have G2 := nG2
  clear nHB nRA nG2
  go_wp2_with (refine loadX (.tmp 2) W.heap.size (ringC xa r) tyRing rfl G2.out rfl rfl rfl ?_)
  refine (HRA.out _).mono ?_
  rintro e w3 ⟨rfl, hb⟩
  have nHB := Lib.hid (belG HB.out hb HB.out.size)
  have nRA := Lib.hid (RA.out.go hb)
  have nG2 := Lib.hid (Bx.go G2.out hb)
  clear hb
  clear HB RA G2
  have HB := nHB
  have RA := nRA
  have G2 := nG2
  clear nHB nRA nG2
  go_upto_region 4 with fail
  have CX := Lib.hid (fun w h => rNext_any xa r w hR H64.out h)
  have HTC := Lib.hid (show (ringC xa r)[7]? = some (.int .i64 r.top) from rfl)
  rcases next_cases a hR with ⟨he, hn⟩ | ⟨he, ht, hn⟩ | ⟨ht1, ht2, hn, ho2, hf1, hf2, hwt, hlast⟩
  · rw [hn] at CX
    rw [decide_eq_true he] at CEM
    clear he hn
    go_wp2_with (refine loadX (.tmp 2) W.heap.size (ringC xa r) tyRing rfl G2.out rfl rfl rfl ?_)
    refine (CX.out _ RA.out).mono ?_
    rintro e w4 ⟨rfl, hb⟩
    have nHB := Lib.hid (belG HB.out hb HB.out.size)
    have nRA := Lib.hid (RA.out.go hb)
    have nG2 := Lib.hid (Bx.go G2.out hb)
    clear hb
    clear HB RA G2
    have HB := nHB
    have RA := nRA
    have G2 := nG2
    clear nHB nRA nG2
    go_wp2_with (refine loadX (.tmp 2) W.heap.size (ringC xa r) tyRing rfl G2.out rfl rfl rfl ?_)
    refine (CEM.out _).mono ?_
    rintro e w5 ⟨rfl, hb⟩
    have nHB := Lib.hid (belG HB.out hb HB.out.size)
    have nRA := Lib.hid (RA.out.go hb)
    have nG2 := Lib.hid (Bx.go G2.out hb)
    clear hb
    clear HB RA G2
    have HB := nHB
    have RA := nRA
    have G2 := nG2
    clear nHB nRA nG2
    go_wp2_with fail
    go_ret
    exact ⟨by first | rfl | (simp; done), HB.out⟩
  · rw [hn] at CX
    rw [decide_eq_false he] at CEM
    rw [ht] at HTC
    clear he hn ht
    go_wp2_with (refine loadX (.tmp 2) W.heap.size (ringC xa r) tyRing rfl G2.out rfl rfl rfl ?_)
    refine (CX.out _ RA.out).mono ?_
    rintro e w4 ⟨rfl, hb⟩
    have nHB := Lib.hid (belG HB.out hb HB.out.size)
    have nRA := Lib.hid (RA.out.go hb)
    have nG2 := Lib.hid (Bx.go G2.out hb)
    clear hb
    clear HB RA G2
    have HB := nHB
    have RA := nRA
    have G2 := nG2
    clear nHB nRA nG2
    go_wp2_with (refine loadX (.tmp 2) W.heap.size (ringC xa r) tyRing rfl G2.out rfl rfl rfl ?_)
    refine (CEM.out _).mono ?_
    rintro e w5 ⟨rfl, hb⟩
    have nHB := Lib.hid (belG HB.out hb HB.out.size)
    have nRA := Lib.hid (RA.out.go hb)
    have nG2 := Lib.hid (Bx.go G2.out hb)
    clear hb
    clear HB RA G2
    have HB := nHB
    have RA := nRA
    have G2 := nG2
    clear nHB nRA nG2
    have x0 := Bx.cell G2.out HTC.out
    go_wp2_with fail
    go_ret
    exact ⟨by first | rfl | (simp; done), HB.out⟩
  · rw [hn] at CX
    have B64n : B64r (r.top + 1) := by unfold B64r; omega
    have CO := Lib.hid (fun w y h k => offer_any xa r (r.top + 1) a y w hR H64.out B64n h k)
    have hX := offer_right hR (r.top + 1) (keyL a)
    have hY := withdraw_right hX
    have CF := Lib.hid (fun w h => rFind_any xa r (r.top + 1) w hR H64.out h B64n)
    have CW := Lib.hid (fun x w h => rWithdraw_any x (offerR r (r.top + 1) (keyL a)).1 w hX (right_64 hX) h)
    have CY := Lib.hid (fun x w h => rNext_any x (withdrawR (offerR r (r.top + 1) (keyL a)).1) w hY (right_64 hY) h)
    have CG := Lib.hid (fun x w h => rFind_any x (withdrawR (offerR r (r.top + 1) (keyL a)).1) (r.top + 1) w hY (right_64 hY) h B64n)
    rw [hf1] at CF
    rw [hf2] at CG
    unfold AnsR1 at CW
    unfold AnsFi at CF CG
    generalize offerR r (r.top + 1) (keyL a) = P at *
    obtain ⟨X, f⟩ := P
    simp only at CO CW CY CG ho2 hlast hwt
    subst ho2
    generalize withdrawR X = Y at *
    have HYT := Lib.hid (fun x => (show (ringC x Y)[7]? = some (.int .i64 (r.top + 1)) from by rw [← hwt]; rfl))
    obtain ⟨t, htt⟩ : ∃ t, t = r.top := ⟨_, rfl⟩
    rw [← htt] at CX CO CF CG HTC HYT ht1 ht2 hlast
    clear hn hf1 hf2 hX hY B64n htt hwt
    obtain ⟨n, hnn⟩ : ∃ n, n = t + 1 := ⟨_, rfl⟩
    rw [← hnn] at CX CO CF CG HYT hlast
    have hti : t + 1 = n := hnn.symm
    have hnw : IntKind.i64.wrap n = n := by rw [IntKind.wrap_i64]; omega
    have enn : (n == n) = true := by simp
    clear hnn ht1 ht2
    go_wp2_with (refine loadX (.tmp 2) W.heap.size (ringC xa r) tyRing rfl G2.out rfl rfl rfl ?_)
    refine (CX.out _ RA.out).mono ?_
    rintro e w4 ⟨rfl, hb⟩
    have nHB := Lib.hid (belG HB.out hb HB.out.size)
    have nRA := Lib.hid (RA.out.go hb)
    have nG2 := Lib.hid (Bx.go G2.out hb)
    clear hb
    clear HB RA G2
    have HB := nHB
    have RA := nRA
    have G2 := nG2
    clear nHB nRA nG2
    go_upto_region 7 with fail
    go_cut [8, 9] (fun tp te wx => AnsOf w4 wx tp te X 0)
    case first =>
      have BB0 := Lib.hid ((Below.refl w4.heap.size w4).drew)
      have KEEP := Lib.hid (fun w' (hW : Below w4.heap.size w4 w') => (show Below w4.heap.size w4 w' from hW))
      refine wp_region_noPanic ?_
      refine wp_region_held_drew (S := fun w' => Below w4.heap.size w4 w') (by kernel_rfl) (KEEP.out _ BB0.out) (fun hHeld => ?_)
      obtain ⟨wz0, hwz⟩ : ∃ x, x = w4.drew := ⟨_, rfl⟩
      rw [← hwz] at BB0 hHeld ⊢
      clear hwz
      refine wpAnyH_take (i := 0) (oi := ?_) (v := .agg (ringC xa r)) ?_ (by kernel_rfl) (by decide +kernel) (by decide +kernel) (fun _ _ _ h => h) ?_ (by assumption) ?_
      rotate_left 1
      focus (simp only [List.getElem?_toArray, List.getElem?_cons_zero] <;> rfl)
      · refine yieldsX (T := 26) ?_ (.tmp 2) ?_ ⟨W.heap.size, 0, none⟩ ?_ (ringC xa r) ?_
        focus rfl
        focus exact rfl
        focus exact rfl
        exact fun w hSw => run_loadX tyRing rfl (Bx.go G2.out hSw)
      (try simp only [Act.put, List.setIfInBounds_toArray, List.set_cons_zero, List.set_cons_succ])
      refine wpAnyH_take (i := 1) (oi := ?_) (v := ?_) ?_ (by kernel_rfl) (by decide +kernel) (by decide +kernel) (fun _ _ _ h => h) ?_ (by assumption) ?_
      rotate_left 2
      focus (simp only [List.getElem?_toArray, List.getElem?_cons_succ, List.getElem?_cons_zero] <;> rfl)
      · refine Or.inl ⟨by rfl, ?_⟩
        intro w hSw
        (try dsimp only at hSw)
        go_simp <;> with_reducible rfl
      (try simp only [Act.put, List.setIfInBounds_toArray, List.set_cons_zero, List.set_cons_succ])
      refine wpAnyH_take (i := 2) (oi := ?_) (v := ?_) ?_ (by kernel_rfl) (by decide +kernel) (by decide +kernel) (fun _ _ _ h => h) ?_ (by assumption) ?_
      rotate_left 2
      focus (simp only [List.getElem?_toArray, List.getElem?_cons_succ, List.getElem?_cons_zero] <;> rfl)
      · refine Or.inl ⟨by rfl, ?_⟩
        intro w hSw
        (try dsimp only at hSw)
        go_simp <;> with_reducible rfl
      (try simp only [Act.put, List.setIfInBounds_toArray, List.set_cons_zero, List.set_cons_succ])
      refine wpAnyH_ready (rs := [3, 8]) (by decide +kernel) (by simp) ?_
      refine AllReadyH.cons rfl (fun K hK => ?_) ?_
      · go_simp
        go_at_call 29
        refine (KA.out _).mono ?_
        rintro e wz1 ⟨⟨yk, rfl, hk⟩, hb⟩
        have BB1 := Lib.hid (belG BB0.out hb BB0.out.size)
        have KY_1 := Lib.hid hk
        clear hk
        clear hb
        refine hK.out _ _ (KEEP.out _ BB1.out) (fun hHeld => ?_)
        clear hK K
        (try simp only [Act.put, List.setIfInBounds_toArray, List.set_cons_zero, List.set_cons_succ])
        refine wpAnyH_ready (rs := [4, 8]) (by decide +kernel) (by simp) ?_
        refine AllReadyH.cons rfl (fun K hK => ?_) ?_
        · go_simp
          go_at_call 21
          refine (CO.out _ yk (RA.out.go BB1.out) KY_1.out).mono ?_
          rintro e wz2 ⟨⟨z, rfl, hz⟩, hb⟩
          have BB2 := Lib.hid (belG BB1.out hb BB1.out.size)
          have KY_2 := Lib.hid (KY_1.out.go hb)
          have RZ_2 := Lib.hid hz
          clear hz
          clear hb
          refine hK.out _ _ (KEEP.out _ BB2.out) (fun hHeld => ?_)
          clear hK K
          (try simp only [Act.put, List.setIfInBounds_toArray, List.set_cons_zero, List.set_cons_succ])
          refine wpAnyH_take (i := 5) (oi := ?_) (v := ?_) ?_ (by kernel_rfl) (by decide +kernel) (by decide +kernel) (fun _ _ _ h => h) ?_ (by assumption) ?_
          rotate_left 2
          focus (simp only [List.getElem?_toArray, List.getElem?_cons_succ, List.getElem?_cons_zero] <;> rfl)
          · refine Or.inl ⟨by rfl, ?_⟩
            intro w hSw
            (try dsimp only at hSw)
            go_simp <;> with_reducible rfl
          (try simp only [Act.put, List.setIfInBounds_toArray, List.set_cons_zero, List.set_cons_succ])
          refine wpAnyH_take (i := 6) (oi := ?_) (v := ?_) ?_ (by kernel_rfl) (by decide +kernel) (by decide +kernel) (fun _ _ _ h => h) ?_ (by assumption) ?_
          rotate_left 2
          focus (simp only [List.getElem?_toArray, List.getElem?_cons_succ, List.getElem?_cons_zero] <;> rfl)
          · refine Or.inl ⟨by rfl, ?_⟩
            intro w hSw
            (try dsimp only at hSw)
            go_simp <;> with_reducible rfl
          (try simp only [Act.put, List.setIfInBounds_toArray, List.set_cons_zero, List.set_cons_succ])
          refine wpAnyH_take (i := 7) (oi := ?_) (v := ?_) ?_ (by kernel_rfl) (by decide +kernel) (by decide +kernel) (fun _ _ _ h => h) ?_ (by assumption) ?_
          rotate_left 2
          focus (simp only [List.getElem?_toArray, List.getElem?_cons_succ, List.getElem?_cons_zero] <;> rfl)
          · refine Or.inl ⟨by rfl, ?_⟩
            intro w hSw
            (try dsimp only at hSw)
            go_simp <;> with_reducible rfl
          (try simp only [Act.put, List.setIfInBounds_toArray, List.set_cons_zero, List.set_cons_succ])
          refine wpAnyH_ready (rs := [8]) (by decide +kernel) (by simp) ?_
          refine AllReadyH.cons rfl (fun K hK => ?_) AllReadyH.nil
          go_simp
          obtain ⟨wz3, hwz⟩ : ∃ x, x = wz2.alloc (.cells #[.int .i64 0, .slice none 0 0, .int .i64 0, .slice none 0 0, .int .i64 0, .slice none 0 0, .int .i64 0, .int .i64 0] 26) := ⟨_, rfl⟩
          have hb : Below wz2.heap.size wz2 wz3 := by rw [hwz]; exact (Below.refl wz2.heap.size wz2).alloc (Nat.le_refl _) _
          have hx : Bx wz3 wz2.heap.size 26 (ringC wg0 rg0) := by rw [hwz]; exact Bx.new _ _ _
          have BB3 := Lib.hid (belG BB2.out hb BB2.out.size)
          rw [← hwz]
          obtain ⟨ga3, hga⟩ : ∃ g, g = wz2.heap.size := ⟨_, rfl⟩
          rw [← hga] at hx
          (try rw [← hga])
          have HN_3 := Lib.hid hx
          have LEga3 := Lib.hid (show w4.heap.size ≤ ga3 from by rw [hga]; exact BB2.out.size)
          have KY_3 := Lib.hid (KY_2.out.go hb)
          have RZ_3 := Lib.hid (RZ_2.out.go hb)
          clear hb hx hwz hga
          refine hK.out _ _ (KEEP.out _ BB3.out) (fun hHeld => ?_)
          clear hK K
          (try simp only [Act.put, List.setIfInBounds_toArray, List.set_cons_zero, List.set_cons_succ])
          refine wpAnyH_ready (rs := [9]) (by decide +kernel) (by simp) ?_
          refine AllReadyH.cons rfl (fun K hK => ?_) AllReadyH.nil
          rw [if_pos (by rfl)]
          refine wp_storeX (.tmp 8) (.tmp 65) ga3 (ringC z X) _ tyRing rfl (ringC_one _ _) HN_3.out rfl rfl rfl rfl ?_
          (try simp only [Act.put, List.setIfInBounds_toArray])
          obtain ⟨wz4, hwz⟩ : ∃ x, x = wz3.setRow ga3 (ringC z X) := ⟨_, rfl⟩
          have BB4 := Lib.hid (show Below w4.heap.size w4 wz4 from by rw [hwz]; exact Below.setRowG BB3.out LEga3.out _)
          have HN_4 := Lib.hid (show Bx wz4 ga3 _ (ringC z X) from by rw [hwz]; exact Bx.setRow HN_3.out _)
          have hq := KY_3.out.setRow (C' := (ringC z X)) HN_3.out (no8_ring _ _)
          rw [← hwz] at hq
          have KY_4 := Lib.hid hq
          clear hq
          have hq := RZ_3.out.setRow (C' := (ringC z X)) HN_3.out (no8_ring _ _)
          rw [← hwz] at hq
          have RZ_4 := Lib.hid hq
          clear hq
          rw [← hwz]
          clear hwz
          refine hK.out _ _ (KEEP.out _ BB4.out) (fun hHeld => ?_)
          clear hK K
          (try simp only [Act.put, List.setIfInBounds_toArray, List.set_cons_zero, List.set_cons_succ])
          refine wpAnyH_take (i := 10) (oi := ?_) (v := ?_) ?_ (by kernel_rfl) (by decide +kernel) (by decide +kernel) (fun _ _ _ h => h) ?_ (by assumption) ?_
          rotate_left 2
          focus (simp only [List.getElem?_toArray, List.getElem?_cons_succ, List.getElem?_cons_zero] <;> rfl)
          · refine Or.inl ⟨by rfl, ?_⟩
            intro w hSw
            (try dsimp only at hSw)
            go_simp <;> with_reducible rfl
          (try simp only [Act.put])
          refine wpAnyH_done (by decide +kernel) ?_ _
          refine NoPanic.normal ?_
          clear KEEP
          go_wp2_with fail
          go_meet
          case rel => exact ⟨rfl, ga3, z, rfl, HN_4.out, RZ_4.out, BB4.out, LEga3.out⟩
        refine AllReadyH.cons rfl (fun K hK => ?_) AllReadyH.nil
        go_simp
        obtain ⟨wz5, hwz⟩ : ∃ x, x = wz1.alloc (.cells #[.int .i64 0, .slice none 0 0, .int .i64 0, .slice none 0 0, .int .i64 0, .slice none 0 0, .int .i64 0, .int .i64 0] 26) := ⟨_, rfl⟩
        have hb : Below wz1.heap.size wz1 wz5 := by rw [hwz]; exact (Below.refl wz1.heap.size wz1).alloc (Nat.le_refl _) _
        have hx : Bx wz5 wz1.heap.size 26 (ringC wg0 rg0) := by rw [hwz]; exact Bx.new _ _ _
        have BB5 := Lib.hid (belG BB1.out hb BB1.out.size)
        rw [← hwz]
        obtain ⟨ga5, hga⟩ : ∃ g, g = wz1.heap.size := ⟨_, rfl⟩
        rw [← hga] at hx
        (try rw [← hga])
        have HN_5 := Lib.hid hx
        have LEga5 := Lib.hid (show w4.heap.size ≤ ga5 from by rw [hga]; exact BB1.out.size)
        have KY_5 := Lib.hid (KY_1.out.go hb)
        clear hb hx hwz hga
        refine hK.out _ _ (KEEP.out _ BB5.out) (fun hHeld => ?_)
        clear hK K
        (try simp only [Act.put, List.setIfInBounds_toArray, List.set_cons_zero, List.set_cons_succ])
        refine wpAnyH_ready (rs := [4]) (by decide +kernel) (by simp) ?_
        refine AllReadyH.cons rfl (fun K hK => ?_) AllReadyH.nil
        go_simp
        go_at_call 21
        refine (CO.out _ yk (RA.out.go BB5.out) KY_5.out).mono ?_
        rintro e wz6 ⟨⟨z, rfl, hz⟩, hb⟩
        have BB6 := Lib.hid (belG BB5.out hb BB5.out.size)
        have KY_6 := Lib.hid (KY_5.out.go hb)
        have HN_6 := Lib.hid (Bx.go HN_5.out hb)
        have RZ_6 := Lib.hid hz
        clear hz
        clear hb
        refine hK.out _ _ (KEEP.out _ BB6.out) (fun hHeld => ?_)
        clear hK K
        (try simp only [Act.put, List.setIfInBounds_toArray, List.set_cons_zero, List.set_cons_succ])
        refine wpAnyH_take (i := 5) (oi := ?_) (v := ?_) ?_ (by kernel_rfl) (by decide +kernel) (by decide +kernel) (fun _ _ _ h => h) ?_ (by assumption) ?_
        rotate_left 2
        focus (simp only [List.getElem?_toArray, List.getElem?_cons_succ, List.getElem?_cons_zero] <;> rfl)
        · refine Or.inl ⟨by rfl, ?_⟩
          intro w hSw
          (try dsimp only at hSw)
          go_simp <;> with_reducible rfl
        (try simp only [Act.put, List.setIfInBounds_toArray, List.set_cons_zero, List.set_cons_succ])
        refine wpAnyH_take (i := 6) (oi := ?_) (v := ?_) ?_ (by kernel_rfl) (by decide +kernel) (by decide +kernel) (fun _ _ _ h => h) ?_ (by assumption) ?_
        rotate_left 2
        focus (simp only [List.getElem?_toArray, List.getElem?_cons_succ, List.getElem?_cons_zero] <;> rfl)
        · refine Or.inl ⟨by rfl, ?_⟩
          intro w hSw
          (try dsimp only at hSw)
          go_simp <;> with_reducible rfl
        (try simp only [Act.put, List.setIfInBounds_toArray, List.set_cons_zero, List.set_cons_succ])
        refine wpAnyH_take (i := 7) (oi := ?_) (v := ?_) ?_ (by kernel_rfl) (by decide +kernel) (by decide +kernel) (fun _ _ _ h => h) ?_ (by assumption) ?_
        rotate_left 2
        focus (simp only [List.getElem?_toArray, List.getElem?_cons_succ, List.getElem?_cons_zero] <;> rfl)
        · refine Or.inl ⟨by rfl, ?_⟩
          intro w hSw
          (try dsimp only at hSw)
          go_simp <;> with_reducible rfl
        (try simp only [Act.put, List.setIfInBounds_toArray, List.set_cons_zero, List.set_cons_succ])
        refine wpAnyH_ready (rs := [9]) (by decide +kernel) (by simp) ?_
        refine AllReadyH.cons rfl (fun K hK => ?_) AllReadyH.nil
        rw [if_pos (by rfl)]
        refine wp_storeX (.tmp 8) (.tmp 65) ga5 (ringC z X) _ tyRing rfl (ringC_one _ _) HN_6.out rfl rfl rfl rfl ?_
        (try simp only [Act.put, List.setIfInBounds_toArray])
        obtain ⟨wz7, hwz⟩ : ∃ x, x = wz6.setRow ga5 (ringC z X) := ⟨_, rfl⟩
        have BB7 := Lib.hid (show Below w4.heap.size w4 wz7 from by rw [hwz]; exact Below.setRowG BB6.out LEga5.out _)
        have HN_7 := Lib.hid (show Bx wz7 ga5 _ (ringC z X) from by rw [hwz]; exact Bx.setRow HN_6.out _)
        have hq := KY_6.out.setRow (C' := (ringC z X)) HN_6.out (no8_ring _ _)
        rw [← hwz] at hq
        have KY_7 := Lib.hid hq
        clear hq
        have hq := RZ_6.out.setRow (C' := (ringC z X)) HN_6.out (no8_ring _ _)
        rw [← hwz] at hq
        have RZ_7 := Lib.hid hq
        clear hq
        rw [← hwz]
        clear hwz
        refine hK.out _ _ (KEEP.out _ BB7.out) (fun hHeld => ?_)
        clear hK K
        (try simp only [Act.put, List.setIfInBounds_toArray, List.set_cons_zero, List.set_cons_succ])
        refine wpAnyH_take (i := 10) (oi := ?_) (v := ?_) ?_ (by kernel_rfl) (by decide +kernel) (by decide +kernel) (fun _ _ _ h => h) ?_ (by assumption) ?_
        rotate_left 2
        focus (simp only [List.getElem?_toArray, List.getElem?_cons_succ, List.getElem?_cons_zero] <;> rfl)
        · refine Or.inl ⟨by rfl, ?_⟩
          intro w hSw
          (try dsimp only at hSw)
          go_simp <;> with_reducible rfl
        (try simp only [Act.put])
        refine wpAnyH_done (by decide +kernel) ?_ _
        refine NoPanic.normal ?_
        clear KEEP
        go_wp2_with fail
        go_meet
        case rel => exact ⟨rfl, ga5, z, rfl, HN_7.out, RZ_7.out, BB7.out, LEga5.out⟩
      refine AllReadyH.cons rfl (fun K hK => ?_) AllReadyH.nil
      go_simp
      obtain ⟨wz8, hwz⟩ : ∃ x, x = wz0.alloc (.cells #[.int .i64 0, .slice none 0 0, .int .i64 0, .slice none 0 0, .int .i64 0, .slice none 0 0, .int .i64 0, .int .i64 0] 26) := ⟨_, rfl⟩
      have hb : Below wz0.heap.size wz0 wz8 := by rw [hwz]; exact (Below.refl wz0.heap.size wz0).alloc (Nat.le_refl _) _
      have hx : Bx wz8 wz0.heap.size 26 (ringC wg0 rg0) := by rw [hwz]; exact Bx.new _ _ _
      have BB8 := Lib.hid (belG BB0.out hb BB0.out.size)
      rw [← hwz]
      obtain ⟨ga8, hga⟩ : ∃ g, g = wz0.heap.size := ⟨_, rfl⟩
      rw [← hga] at hx
      (try rw [← hga])
      have HN_8 := Lib.hid hx
      have LEga8 := Lib.hid (show w4.heap.size ≤ ga8 from by rw [hga]; exact BB0.out.size)
      clear hb hx hwz hga
      refine hK.out _ _ (KEEP.out _ BB8.out) (fun hHeld => ?_)
      clear hK K
      (try simp only [Act.put, List.setIfInBounds_toArray, List.set_cons_zero, List.set_cons_succ])
      refine wpAnyH_ready (rs := [3]) (by decide +kernel) (by simp) ?_
      refine AllReadyH.cons rfl (fun K hK => ?_) AllReadyH.nil
      go_simp
      go_at_call 29
      refine (KA.out _).mono ?_
      rintro e wz9 ⟨⟨yk, rfl, hk⟩, hb⟩
      have BB9 := Lib.hid (belG BB8.out hb BB8.out.size)
      have HN_9 := Lib.hid (Bx.go HN_8.out hb)
      have KY_9 := Lib.hid hk
      clear hk
      clear hb
      refine hK.out _ _ (KEEP.out _ BB9.out) (fun hHeld => ?_)
      clear hK K
      (try simp only [Act.put, List.setIfInBounds_toArray, List.set_cons_zero, List.set_cons_succ])
      refine wpAnyH_ready (rs := [4]) (by decide +kernel) (by simp) ?_
      refine AllReadyH.cons rfl (fun K hK => ?_) AllReadyH.nil
      go_simp
      go_at_call 21
      refine (CO.out _ yk (RA.out.go BB9.out) KY_9.out).mono ?_
      rintro e wz10 ⟨⟨z, rfl, hz⟩, hb⟩
      have BB10 := Lib.hid (belG BB9.out hb BB9.out.size)
      have KY_10 := Lib.hid (KY_9.out.go hb)
      have HN_10 := Lib.hid (Bx.go HN_9.out hb)
      have RZ_10 := Lib.hid hz
      clear hz
      clear hb
      refine hK.out _ _ (KEEP.out _ BB10.out) (fun hHeld => ?_)
      clear hK K
      (try simp only [Act.put, List.setIfInBounds_toArray, List.set_cons_zero, List.set_cons_succ])
      refine wpAnyH_take (i := 5) (oi := ?_) (v := ?_) ?_ (by kernel_rfl) (by decide +kernel) (by decide +kernel) (fun _ _ _ h => h) ?_ (by assumption) ?_
      rotate_left 2
      focus (simp only [List.getElem?_toArray, List.getElem?_cons_succ, List.getElem?_cons_zero] <;> rfl)
      · refine Or.inl ⟨by rfl, ?_⟩
        intro w hSw
        (try dsimp only at hSw)
        go_simp <;> with_reducible rfl
      (try simp only [Act.put, List.setIfInBounds_toArray, List.set_cons_zero, List.set_cons_succ])
      refine wpAnyH_take (i := 6) (oi := ?_) (v := ?_) ?_ (by kernel_rfl) (by decide +kernel) (by decide +kernel) (fun _ _ _ h => h) ?_ (by assumption) ?_
      rotate_left 2
      focus (simp only [List.getElem?_toArray, List.getElem?_cons_succ, List.getElem?_cons_zero] <;> rfl)
      · refine Or.inl ⟨by rfl, ?_⟩
        intro w hSw
        (try dsimp only at hSw)
        go_simp <;> with_reducible rfl
      (try simp only [Act.put, List.setIfInBounds_toArray, List.set_cons_zero, List.set_cons_succ])
      refine wpAnyH_take (i := 7) (oi := ?_) (v := ?_) ?_ (by kernel_rfl) (by decide +kernel) (by decide +kernel) (fun _ _ _ h => h) ?_ (by assumption) ?_
      rotate_left 2
      focus (simp only [List.getElem?_toArray, List.getElem?_cons_succ, List.getElem?_cons_zero] <;> rfl)
      · refine Or.inl ⟨by rfl, ?_⟩
        intro w hSw
        (try dsimp only at hSw)
        go_simp <;> with_reducible rfl
      (try simp only [Act.put, List.setIfInBounds_toArray, List.set_cons_zero, List.set_cons_succ])
      refine wpAnyH_ready (rs := [9]) (by decide +kernel) (by simp) ?_
      refine AllReadyH.cons rfl (fun K hK => ?_) AllReadyH.nil
      rw [if_pos (by rfl)]
      refine wp_storeX (.tmp 8) (.tmp 65) ga8 (ringC z X) _ tyRing rfl (ringC_one _ _) HN_10.out rfl rfl rfl rfl ?_
      (try simp only [Act.put, List.setIfInBounds_toArray])
      obtain ⟨wz11, hwz⟩ : ∃ x, x = wz10.setRow ga8 (ringC z X) := ⟨_, rfl⟩
      have BB11 := Lib.hid (show Below w4.heap.size w4 wz11 from by rw [hwz]; exact Below.setRowG BB10.out LEga8.out _)
      have HN_11 := Lib.hid (show Bx wz11 ga8 _ (ringC z X) from by rw [hwz]; exact Bx.setRow HN_10.out _)
      have hq := KY_10.out.setRow (C' := (ringC z X)) HN_10.out (no8_ring _ _)
      rw [← hwz] at hq
      have KY_11 := Lib.hid hq
      clear hq
      have hq := RZ_10.out.setRow (C' := (ringC z X)) HN_10.out (no8_ring _ _)
      rw [← hwz] at hq
      have RZ_11 := Lib.hid hq
      clear hq
      rw [← hwz]
      clear hwz
      refine hK.out _ _ (KEEP.out _ BB11.out) (fun hHeld => ?_)
      clear hK K
      (try simp only [Act.put, List.setIfInBounds_toArray, List.set_cons_zero, List.set_cons_succ])
      refine wpAnyH_take (i := 10) (oi := ?_) (v := ?_) ?_ (by kernel_rfl) (by decide +kernel) (by decide +kernel) (fun _ _ _ h => h) ?_ (by assumption) ?_
      rotate_left 2
      focus (simp only [List.getElem?_toArray, List.getElem?_cons_succ, List.getElem?_cons_zero] <;> rfl)
      · refine Or.inl ⟨by rfl, ?_⟩
        intro w hSw
        (try dsimp only at hSw)
        go_simp <;> with_reducible rfl
      (try simp only [Act.put])
      refine wpAnyH_done (by decide +kernel) ?_ _
      refine NoPanic.normal ?_
      clear KEEP
      go_wp2_with fail
      go_meet
      case rel => exact ⟨rfl, ga8, z, rfl, HN_11.out, RZ_11.out, BB11.out, LEga8.out⟩
    case rest =>
    obtain ⟨rfl, g8, z5, rfl, hg, hr, hb, hge⟩ := hcut
    obtain ⟨w5, hw⟩ : ∃ x, x = wc := ⟨_, rfl⟩
    rw [← hw] at hg hr hb ⊢
    clear hw
    have nHB := Lib.hid (belG HB.out hb HB.out.size)
    have NEG2G8 := Lib.hid (show W.heap.size ≠ g8 from by have h1 := Bx.lt G2.out; omega)
    have NEG8G2 := Lib.hid (NEG2G8.out.symm)
    have LEG8 := Lib.hid (show W.heap.size ≤ g8 from by have h1 := HB.out.size; omega)
    have nRA := Lib.hid (RA.out.go hb)
    have nG2 := Lib.hid (Bx.go G2.out hb)
    have G8 := Lib.hid hg
    have RG8 := Lib.hid hr
    clear hb hg hr hge
    clear HB RA G2
    have HB := nHB
    have RA := nRA
    have G2 := nG2
    clear nHB nRA nG2
    go_wp2_with (refine loadX (.tmp 2) W.heap.size (ringC xa r) tyRing rfl G2.out rfl rfl rfl ?_)
    refine (CF.out _ RA.out).mono ?_
    rintro e w6 ⟨⟨p, rfl, -⟩, hb⟩
    have nHB := Lib.hid (belG HB.out hb HB.out.size)
    have nRA := Lib.hid (RA.out.go hb)
    have nRG8 := Lib.hid (RG8.out.go hb)
    have nG2 := Lib.hid (Bx.go G2.out hb)
    have nG8 := Lib.hid (Bx.go G8.out hb)
    clear hb
    clear HB RA RG8 G2 G8
    have HB := nHB
    have RA := nRA
    have RG8 := nRG8
    have G2 := nG2
    have G8 := nG8
    clear nHB nRA nRG8 nG2 nG8
    go_wp2_with (refine loadX (.tmp 8) g8 (ringC z5 X) tyRing rfl G8.out rfl rfl rfl ?_)
    refine (CW.out z5 _ RG8.out).mono ?_
    rintro e w7 ⟨⟨x12, rfl, hr⟩, hb⟩
    have nHB := Lib.hid (belG HB.out hb HB.out.size)
    have nRA := Lib.hid (RA.out.go hb)
    have nRG8 := Lib.hid (RG8.out.go hb)
    have nG2 := Lib.hid (Bx.go G2.out hb)
    have nG8 := Lib.hid (Bx.go G8.out hb)
    clear hb
    clear HB RA RG8 G2 G8
    have HB := nHB
    have RA := nRA
    have RG8 := nRG8
    have G2 := nG2
    have G8 := nG8
    clear nHB nRA nRG8 nG2 nG8
    have RG12 := Lib.hid hr
    clear hr
    have LB := Lib.hid HB.out.size
    have LTG2 := Lib.hid (show W.heap.size < w7.heap.size from Bx.lt G2.out)
    have LTG8 := Lib.hid (show g8 < w7.heap.size from Bx.lt G8.out)
    obtain ⟨V7, hV7⟩ : ∃ V, V = w7.alloc (.cells (ringC x12 Y) 26) := ⟨_, rfl⟩
    have ha := (Below.refl w7.heap.size w7).alloc (Nat.le_refl _) (.cells (ringC x12 Y) 26)
    have hg := heap_alloc_new w7 (.cells (ringC x12 Y) 26)
    have nHB := Lib.hid (HB.out.alloc HB.out.size (.cells (ringC x12 Y) 26))
    rw [← hV7] at ha hg nHB
    have nRA := Lib.hid (RA.out.go ha)
    have nRG8 := Lib.hid (RG8.out.go ha)
    have nRG12 := Lib.hid (RG12.out.go ha)
    have nG2 := Lib.hid (Bx.go G2.out ha)
    have nG8 := Lib.hid (Bx.go G8.out ha)
    obtain ⟨g12, hg12⟩ : ∃ g, g = w7.heap.size := ⟨_, rfl⟩
    rw [← hg12] at hg
    have HXG12 := Lib.hid hg12
    have G12 := Lib.hid hg
    have HV := Lib.hid hV7
    clear ha hg hV7 hg12
    clear HB RA RG8 RG12 G2 G8
    have HB := nHB
    have RA := nRA
    have RG8 := nRG8
    have RG12 := nRG12
    have G2 := nG2
    have G8 := nG8
    clear nHB nRA nRG8 nRG12 nG2 nG8
    have LEG12 := Lib.hid (show W.heap.size ≤ g12 from by rw [HXG12.out]; exact LB.out)
    have NEG2G12 := Lib.hid (show W.heap.size ≠ g12 from by have h1 := LTG2.out; rw [HXG12.out]; omega)
    have NEG12G2 := Lib.hid (NEG2G12.out.symm)
    have NEG8G12 := Lib.hid (show g8 ≠ g12 from by have h1 := LTG8.out; rw [HXG12.out]; omega)
    have NEG12G8 := Lib.hid (NEG8G12.out.symm)
    clear LB LTG2 LTG8
    go_upto_region 10 with (refine storeX (.tmp 12) (.tmp 74) _ (ringC x12 Y) _ tyRing rfl (ringC_one _ _) (heap_alloc_new _ _) rfl rfl rfl rfl rfl ?_; rw [setRowG_fold])
    rw [← HV.out]
    (try rw [← HXG12.out])
    clear HV HXG12
    rcases hlast with ⟨hl1, hl2⟩ | ⟨hl1, hl2⟩
    · rw [hl2] at CY
      obtain ⟨M, hM⟩ : ∃ M, M = n + 1 := ⟨_, rfl⟩
      rw [← hM] at CY
      have hMi : n + 1 = M := hM.symm
      have hMw : IntKind.i64.wrap M = M := by rw [IntKind.wrap_i64]; rw [IntKind.wrap_i64] at hnw; omega
      have eMM : (M == M) = true := by simp
      clear hM
      clear hl2
      go_wp2_with (refine loadX (.tmp 12) g12 (ringC x12 Y) tyRing rfl G12.out rfl rfl rfl ?_)
      refine (CY.out x12 _ RG12.out).mono ?_
      rintro e w8 ⟨rfl, hb⟩
      have nHB := Lib.hid (belG HB.out hb HB.out.size)
      have nRA := Lib.hid (RA.out.go hb)
      have nRG8 := Lib.hid (RG8.out.go hb)
      have nRG12 := Lib.hid (RG12.out.go hb)
      have nG2 := Lib.hid (Bx.go G2.out hb)
      have nG8 := Lib.hid (Bx.go G8.out hb)
      have nG12 := Lib.hid (Bx.go G12.out hb)
      clear hb
      clear HB RA RG8 RG12 G2 G8 G12
      have HB := nHB
      have RA := nRA
      have RG8 := nRG8
      have RG12 := nRG12
      have G2 := nG2
      have G8 := nG8
      have G12 := nG12
      clear nHB nRA nRG8 nRG12 nG2 nG8 nG12
      go_wp2_with (refine loadX (.tmp 12) g12 (ringC x12 Y) tyRing rfl G12.out rfl rfl rfl ?_)
      refine (CG.out x12 _ RG12.out).mono ?_
      rintro e w9 ⟨⟨q, rfl, -⟩, hb⟩
      have nHB := Lib.hid (belG HB.out hb HB.out.size)
      have nRA := Lib.hid (RA.out.go hb)
      have nRG8 := Lib.hid (RG8.out.go hb)
      have nRG12 := Lib.hid (RG12.out.go hb)
      have nG2 := Lib.hid (Bx.go G2.out hb)
      have nG8 := Lib.hid (Bx.go G8.out hb)
      have nG12 := Lib.hid (Bx.go G12.out hb)
      clear hb
      clear HB RA RG8 RG12 G2 G8 G12
      have HB := nHB
      have RA := nRA
      have RG8 := nRG8
      have RG12 := nRG12
      have G2 := nG2
      have G8 := nG8
      have G12 := nG12
      clear nHB nRA nRG8 nRG12 nG2 nG8 nG12
      have x0 := Bx.cell G2.out HTC.out
      have x1 := Bx.cell G12.out (HYT.out x12)
      go_wp2_with fail
      go_ret
      exact ⟨by first | rfl | (simp; done) | (simp; omega), HB.out⟩
    · rw [hl2] at CY
      subst hl1
      clear hl2
      go_wp2_with (refine loadX (.tmp 12) g12 (ringC x12 Y) tyRing rfl G12.out rfl rfl rfl ?_)
      refine (CY.out x12 _ RG12.out).mono ?_
      rintro e w8 ⟨rfl, hb⟩
      have nHB := Lib.hid (belG HB.out hb HB.out.size)
      have nRA := Lib.hid (RA.out.go hb)
      have nRG8 := Lib.hid (RG8.out.go hb)
      have nRG12 := Lib.hid (RG12.out.go hb)
      have nG2 := Lib.hid (Bx.go G2.out hb)
      have nG8 := Lib.hid (Bx.go G8.out hb)
      have nG12 := Lib.hid (Bx.go G12.out hb)
      clear hb
      clear HB RA RG8 RG12 G2 G8 G12
      have HB := nHB
      have RA := nRA
      have RG8 := nRG8
      have RG12 := nRG12
      have G2 := nG2
      have G8 := nG8
      have G12 := nG12
      clear nHB nRA nRG8 nRG12 nG2 nG8 nG12
      go_wp2_with (refine loadX (.tmp 12) g12 (ringC x12 Y) tyRing rfl G12.out rfl rfl rfl ?_)
      refine (CG.out x12 _ RG12.out).mono ?_
      rintro e w9 ⟨⟨q, rfl, -⟩, hb⟩
      have nHB := Lib.hid (belG HB.out hb HB.out.size)
      have nRA := Lib.hid (RA.out.go hb)
      have nRG8 := Lib.hid (RG8.out.go hb)
      have nRG12 := Lib.hid (RG12.out.go hb)
      have nG2 := Lib.hid (Bx.go G2.out hb)
      have nG8 := Lib.hid (Bx.go G8.out hb)
      have nG12 := Lib.hid (Bx.go G12.out hb)
      clear hb
      clear HB RA RG8 RG12 G2 G8 G12
      have HB := nHB
      have RA := nRA
      have RG8 := nRG8
      have RG12 := nRG12
      have G2 := nG2
      have G8 := nG8
      have G12 := nG12
      clear nHB nRA nRG8 nRG12 nG2 nG8 nG12
      have x0 := Bx.cell G2.out HTC.out
      have x1 := Bx.cell G12.out (HYT.out x12)
      go_wp2_with fail
      go_ret
      exact ⟨by first | rfl | (simp; done) | (simp; omega), HB.out⟩
set_option maxRecDepth 100000 in
theorem ringNext_walkI (xa : Wg) (r : Rg) (a : Int) (W : World) (h64 : Rg64 r) (hra : RingR W xa r) (ha : 0 ≤ a ∧ a ≤ 255) :
    Calls Try.prog 7 #[.agg (ringC xa r), .int .u8 a] W fun e W' => e = .returned (.bool true) ∧ Below W.heap.size W W' := by
  have h := ringNext_walk xa r (UInt8.ofNat a.toNat) W h64 hra
  rw [show ((UInt8.ofNat a.toNat).toNat : Int) = a by rw [UInt8.toNat_ofNat']; omega] at h
  exact h
end Go.Proofs.Ytgnccfcdonoegaa
