
/- A ring behind a step (RingKeeps): done. -/
import Derived.Test.YtgnccfcdonoegaaRgT
import Derived.Test.YtgnccfcdonoegaaJ12
namespace Go.Proofs.Ytgnccfcdonoegaa
open Go.RowKit

set_option maxRecDepth 100000 in
set_option maxHeartbeats 4000000 in
theorem done_any (xa : Wg) (r : Rg) (kd : Nat) (no : Int) (b : UInt8) (W : World) (hR : RightR r) (hn : B64r no) (hra : RingR W xa r) (hkd : kd < 256) :
    Calls Try.prog 30 #[.agg (ringC xa r), .agg (stepC kd no b.toNat)] W fun e W' => AnsDn W' e (doneR r kd no b) ∧ Below W.heap.size W W' := by
  obtain ⟨nb, hnb⟩ : ∃ n, n = b.toNat := ⟨_, rfl⟩
  rw [← hnb]
  have KA := Lib.hid (fun w => (show Calls Try.prog 29 #[.int .u8 (nb : Nat)] w fun e W' => (∃ y : Wk, e = .returned (.slice y.1 32 y.2) ∧ KeyR W' y (keyL b)) ∧ Below w.heap.size w W' from by rw [hnb]; exact key_any b w))
  have HC0 := Lib.hid (show (stepC kd no nb)[0]? = some (.int .u8 (kd : Nat)) ∧ (stepC kd no nb)[1]? = some (.int .i64 no) ∧ (stepC kd no nb)[2]? = some (.int .u8 (nb : Nat)) from ⟨rfl, rfl, rfl⟩)
  obtain ⟨V0, hV, hb, hg2, hg3, hg4, hs⟩ := bx3 W 26 56 26 (ringC xa r) (stepC kd no nb) (ringC wg0 rg0)
  replace hV : V0 = ((W.alloc (.cells (ringC xa r) 26)).alloc (.cells (stepC kd no nb) 56)).alloc (.cells #[.int .i64 0, .slice none 0 0, .int .i64 0, .slice none 0 0, .int .i64 0, .slice none 0 0, .int .i64 0, .int .i64 0] 26) := hV
  have HB := Lib.hid hb
  have G2 := Lib.hid hg2
  have G3 := Lib.hid hg3
  have G4 := Lib.hid hg4
  have RA := Lib.hid (hra.go hb)
  have HV := Lib.hid hV
  have LEG4 := Lib.hid (show W.heap.size ≤ W.heap.size + 2 by omega)
  obtain ⟨D, hD⟩ : ∃ D, D = doneR r kd no b := ⟨_, rfl⟩
  rw [← hD]
  have HD := Lib.hid hD
  obtain ⟨j, hj⟩ : ∃ j, j = kd % 5 := ⟨_, rfl⟩
  have hj5 : j = 0 ∨ j = 1 ∨ j = 2 ∨ j = 3 ∨ j = 4 := by omega
  have hj1 : (kd : Int) % 5 = (j : Int) := by omega
  have hj2 : (kd : Int).tmod 5 = (j : Int) := by rw [Int.tmod_eq_emod_of_nonneg (by omega)]; exact hj1
  have HJ := Lib.hid hj
  obtain ⟨C2, hC2⟩ : ∃ C, C = ringC xa r := ⟨_, rfl⟩
  obtain ⟨C3, hC3⟩ : ∃ C, C = stepC kd no nb := ⟨_, rfl⟩
  have HC2 := Lib.hid hC2
  rw [← hC2] at HV ⊢
  rw [← hC3] at HV HC0 G3 ⊢
  have H64 := Lib.hid (right_64 hR)
  have HBN := Lib.hid hn
  clear hV hb hg2 hg3 hg4 hs hD hnb hra hC2 hC3 hj hn
  rcases hj5 with rfl | rfl | rfl | rfl | rfl
  · have CX := Lib.hid (fun w h => rNext_any xa r w hR H64.out h)
    have CO := Lib.hid (fun (hb : B64r (nextR r).1) w y h k => offer_any xa r (nextR r).1 b y w hR H64.out hb h k)
    have HDD := Lib.hid (show doneR r kd no b = if (nextR r).2 = 0 then ((offerR r (nextR r).1 (keyL b)).1, decide ((offerR r (nextR r).1 (keyL b)).2 = 0)) else (r, false) from by unfold doneR; rw [if_pos HJ.out.symm])
    have HBX := Lib.hid (show B64r (nextR r).1 from by
      have h1 := H64.out.2.2.2.2
      unfold nextR
      split
      · exact b64r0
      · split
        · exact b64r0
        · unfold B64r at h1 ⊢
          show _ ≤ r.top + 1 ∧ r.top + 1 ≤ _
          omega)
    have CO2 := Lib.hid (fun w y h k => CO.out HBX.out w y h k)
    generalize nextR r = N at *
    obtain ⟨n, c⟩ := N
    simp only at CX CO2 HDD
    generalize offerR r n (keyL b) = P at *
    obtain ⟨X, e⟩ := P
    simp only at CO2 HDD
    clear CO HBX
    go_enter Try.func30, Try.ntmps30
    go_upto_region 1 with (fail)
    rw [← HV.out]
    clear HV
    have y0 := Bx.cell G3.out HC0.out.1
    go_upto_region 3 with fail
    go_wp2_with (refine loadX (.tmp 2) W.heap.size (ringC xa r) tyRing rfl G2.out rfl rfl rfl ?_)
    refine (CX.out _ RA.out).mono ?_
    rintro e w1 ⟨rfl, hb⟩
    have nHB := Lib.hid (belG HB.out hb HB.out.size)
    have nRA := Lib.hid (RA.out.go hb)
    have nG2 := Lib.hid (Bx.go G2.out hb)
    have nG3 := Lib.hid (Bx.go G3.out hb)
    have nG4 := Lib.hid (Bx.go G4.out hb)
    clear hb
    clear HB RA G2 G3 G4
    have HB := nHB
    have RA := nRA
    have G2 := nG2
    have G3 := nG3
    have G4 := nG4
    clear nHB nRA nG2 nG3 nG4
    clear y0
    by_cases hc : c = 0
    · subst hc
      have HD2 := Lib.hid (show D = (X, decide (e = 0)) from HD.out.trans (HDD.out.trans (if_pos rfl)))
      go_upto_region 6 with fail
      go_cut [8, 9] (fun tp te wx => AnsOf w1 wx tp te X e)
      case first =>
        have BB0 := Lib.hid ((Below.refl w1.heap.size w1).drew)
        have KEEP := Lib.hid (fun w' (hW : Below w1.heap.size w1 w') => (show Below w1.heap.size w1 w' from hW))
        refine wp_region_noPanic ?_
        refine wp_region_held_drew (S := fun w' => Below w1.heap.size w1 w') (by kernel_rfl) (KEEP.out _ BB0.out) (fun hHeld => ?_)
        obtain ⟨wz0, hwz⟩ : ∃ x, x = w1.drew := ⟨_, rfl⟩
        rw [← hwz] at BB0 hHeld ⊢
        clear hwz
        refine wpAnyH_take (i := 0) (oi := ?_) (v := .agg (ringC xa r)) ?_ (by kernel_rfl) (by decide +kernel) (by decide +kernel) (fun _ _ _ h => h) ?_ (by assumption) ?_
        rotate_left 1
        focus (simp only [List.getElem?_toArray, List.getElem?_cons_zero] <;> rfl)
        · refine yieldsX (T := 26) ?_ (.tmp 2) ?_ ⟨W.heap.size, 0, none⟩ ?_ (ringC xa r) ?_
          focus rfl
          focus exact rfl
          focus exact rfl
          exact fun w hSw => run_loadX tyRing rfl (Bx.go G2.out hSw)
        (try simp only [Act.put, List.setIfInBounds_toArray, List.set_cons_zero, List.set_cons_succ])
        refine wpAnyH_take (i := 1) (oi := ?_) (v := ?_) ?_ (by kernel_rfl) (by decide +kernel) (by decide +kernel) (fun _ _ _ h => h) ?_ (by assumption) ?_
        rotate_left 2
        focus (simp only [List.getElem?_toArray, List.getElem?_cons_succ, List.getElem?_cons_zero] <;> rfl)
        · refine Or.inl ⟨by rfl, ?_⟩
          intro w hSw
          (try dsimp only at hSw)
          go_simp <;> with_reducible rfl
        (try simp only [Act.put, List.setIfInBounds_toArray, List.set_cons_zero, List.set_cons_succ])
        refine wpAnyH_take (i := 2) (oi := ?_) (v := ?_) ?_ (by kernel_rfl) (by decide +kernel) (by decide +kernel) (fun _ _ _ h => h) ?_ (by assumption) ?_
        rotate_left 2
        focus (simp only [List.getElem?_toArray, List.getElem?_cons_succ, List.getElem?_cons_zero] <;> rfl)
        · refine Or.inl ⟨by rfl, ?_⟩
          intro w hSw
          (try dsimp only at hSw)
          go_simp <;> with_reducible rfl
        (try simp only [Act.put, List.setIfInBounds_toArray, List.set_cons_zero, List.set_cons_succ])
        refine wpAnyH_take (i := 3) (oi := ?_) (v := ?_) ?_ (by kernel_rfl) (by decide +kernel) (by decide +kernel) (fun _ _ _ h => h) ?_ (by assumption) ?_
        rotate_left 2
        focus (simp only [List.getElem?_toArray, List.getElem?_cons_succ, List.getElem?_cons_zero] <;> rfl)
        · refine Or.inl ⟨by rfl, ?_⟩
          intro w hSw
          have hcell := (Bx.go G3.out hSw).cell (HC0.out.2.2)
          go_simp <;> with_reducible rfl
        (try simp only [Act.put, List.setIfInBounds_toArray, List.set_cons_zero, List.set_cons_succ])
        refine wpAnyH_ready (rs := [4, 9]) (by decide +kernel) (by simp) ?_
        refine AllReadyH.cons rfl (fun K hK => ?_) ?_
        · go_simp
          go_at_call 29
          refine (KA.out _).mono ?_
          rintro e wz1 ⟨⟨yk, rfl, hk⟩, hb⟩
          have BB1 := Lib.hid (belG BB0.out hb BB0.out.size)
          have KY_1 := Lib.hid hk
          clear hk
          clear hb
          refine hK.out _ _ (KEEP.out _ BB1.out) (fun hHeld => ?_)
          clear hK K
          (try simp only [Act.put, List.setIfInBounds_toArray, List.set_cons_zero, List.set_cons_succ])
          refine wpAnyH_ready (rs := [5, 9]) (by decide +kernel) (by simp) ?_
          refine AllReadyH.cons rfl (fun K hK => ?_) ?_
          · go_simp
            go_at_call 21
            refine (CO2.out _ yk (RA.out.go BB1.out) KY_1.out).mono ?_
            rintro e wz2 ⟨⟨z, rfl, hz⟩, hb⟩
            have BB2 := Lib.hid (belG BB1.out hb BB1.out.size)
            have KY_2 := Lib.hid (KY_1.out.go hb)
            have RZ_2 := Lib.hid hz
            clear hz
            clear hb
            refine hK.out _ _ (KEEP.out _ BB2.out) (fun hHeld => ?_)
            clear hK K
            (try simp only [Act.put, List.setIfInBounds_toArray, List.set_cons_zero, List.set_cons_succ])
            refine wpAnyH_take (i := 6) (oi := ?_) (v := ?_) ?_ (by kernel_rfl) (by decide +kernel) (by decide +kernel) (fun _ _ _ h => h) ?_ (by assumption) ?_
            rotate_left 2
            focus (simp only [List.getElem?_toArray, List.getElem?_cons_succ, List.getElem?_cons_zero] <;> rfl)
            · refine Or.inl ⟨by rfl, ?_⟩
              intro w hSw
              (try dsimp only at hSw)
              go_simp <;> with_reducible rfl
            (try simp only [Act.put, List.setIfInBounds_toArray, List.set_cons_zero, List.set_cons_succ])
            refine wpAnyH_take (i := 7) (oi := ?_) (v := ?_) ?_ (by kernel_rfl) (by decide +kernel) (by decide +kernel) (fun _ _ _ h => h) ?_ (by assumption) ?_
            rotate_left 2
            focus (simp only [List.getElem?_toArray, List.getElem?_cons_succ, List.getElem?_cons_zero] <;> rfl)
            · refine Or.inl ⟨by rfl, ?_⟩
              intro w hSw
              (try dsimp only at hSw)
              go_simp <;> with_reducible rfl
            (try simp only [Act.put, List.setIfInBounds_toArray, List.set_cons_zero, List.set_cons_succ])
            refine wpAnyH_take (i := 8) (oi := ?_) (v := ?_) ?_ (by kernel_rfl) (by decide +kernel) (by decide +kernel) (fun _ _ _ h => h) ?_ (by assumption) ?_
            rotate_left 2
            focus (simp only [List.getElem?_toArray, List.getElem?_cons_succ, List.getElem?_cons_zero] <;> rfl)
            · refine Or.inl ⟨by rfl, ?_⟩
              intro w hSw
              (try dsimp only at hSw)
              go_simp <;> with_reducible rfl
            (try simp only [Act.put, List.setIfInBounds_toArray, List.set_cons_zero, List.set_cons_succ])
            refine wpAnyH_ready (rs := [9]) (by decide +kernel) (by simp) ?_
            refine AllReadyH.cons rfl (fun K hK => ?_) AllReadyH.nil
            go_simp
            obtain ⟨wz3, hwz⟩ : ∃ x, x = wz2.alloc (.cells #[.int .i64 0, .slice none 0 0, .int .i64 0, .slice none 0 0, .int .i64 0, .slice none 0 0, .int .i64 0, .int .i64 0] 26) := ⟨_, rfl⟩
            have hb : Below wz2.heap.size wz2 wz3 := by rw [hwz]; exact (Below.refl wz2.heap.size wz2).alloc (Nat.le_refl _) _
            have hx : Bx wz3 wz2.heap.size 26 (ringC wg0 rg0) := by rw [hwz]; exact Bx.new _ _ _
            have BB3 := Lib.hid (belG BB2.out hb BB2.out.size)
            rw [← hwz]
            obtain ⟨ga3, hga⟩ : ∃ g, g = wz2.heap.size := ⟨_, rfl⟩
            rw [← hga] at hx
            (try rw [← hga])
            have HN_3 := Lib.hid hx
            have LEga3 := Lib.hid (show w1.heap.size ≤ ga3 from by rw [hga]; exact BB2.out.size)
            have KY_3 := Lib.hid (KY_2.out.go hb)
            have RZ_3 := Lib.hid (RZ_2.out.go hb)
            clear hb hx hwz hga
            refine hK.out _ _ (KEEP.out _ BB3.out) (fun hHeld => ?_)
            clear hK K
            (try simp only [Act.put, List.setIfInBounds_toArray, List.set_cons_zero, List.set_cons_succ])
            refine wpAnyH_ready (rs := [10]) (by decide +kernel) (by simp) ?_
            refine AllReadyH.cons rfl (fun K hK => ?_) AllReadyH.nil
            rw [if_pos (by rfl)]
            refine wp_storeX (.tmp 8) (.tmp 34) ga3 (ringC z X) _ tyRing rfl (ringC_one _ _) HN_3.out rfl rfl rfl rfl ?_
            (try simp only [Act.put, List.setIfInBounds_toArray])
            obtain ⟨wz4, hwz⟩ : ∃ x, x = wz3.setRow ga3 (ringC z X) := ⟨_, rfl⟩
            have BB4 := Lib.hid (show Below w1.heap.size w1 wz4 from by rw [hwz]; exact Below.setRowG BB3.out LEga3.out _)
            have HN_4 := Lib.hid (show Bx wz4 ga3 _ (ringC z X) from by rw [hwz]; exact Bx.setRow HN_3.out _)
            have hq := KY_3.out.setRow (C' := (ringC z X)) HN_3.out (no8_ring _ _)
            rw [← hwz] at hq
            have KY_4 := Lib.hid hq
            clear hq
            have hq := RZ_3.out.setRow (C' := (ringC z X)) HN_3.out (no8_ring _ _)
            rw [← hwz] at hq
            have RZ_4 := Lib.hid hq
            clear hq
            rw [← hwz]
            clear hwz
            refine hK.out _ _ (KEEP.out _ BB4.out) (fun hHeld => ?_)
            clear hK K
            (try simp only [Act.put, List.setIfInBounds_toArray, List.set_cons_zero, List.set_cons_succ])
            refine wpAnyH_take (i := 11) (oi := ?_) (v := ?_) ?_ (by kernel_rfl) (by decide +kernel) (by decide +kernel) (fun _ _ _ h => h) ?_ (by assumption) ?_
            rotate_left 2
            focus (simp only [List.getElem?_toArray, List.getElem?_cons_succ, List.getElem?_cons_zero] <;> rfl)
            · refine Or.inl ⟨by rfl, ?_⟩
              intro w hSw
              (try dsimp only at hSw)
              go_simp <;> with_reducible rfl
            (try simp only [Act.put])
            refine wpAnyH_done (by decide +kernel) ?_ _
            refine NoPanic.normal ?_
            clear KEEP
            go_wp2_with fail
            go_meet
            case rel => exact ⟨rfl, ga3, z, rfl, HN_4.out, RZ_4.out, BB4.out, LEga3.out⟩
          refine AllReadyH.cons rfl (fun K hK => ?_) AllReadyH.nil
          go_simp
          obtain ⟨wz5, hwz⟩ : ∃ x, x = wz1.alloc (.cells #[.int .i64 0, .slice none 0 0, .int .i64 0, .slice none 0 0, .int .i64 0, .slice none 0 0, .int .i64 0, .int .i64 0] 26) := ⟨_, rfl⟩
          have hb : Below wz1.heap.size wz1 wz5 := by rw [hwz]; exact (Below.refl wz1.heap.size wz1).alloc (Nat.le_refl _) _
          have hx : Bx wz5 wz1.heap.size 26 (ringC wg0 rg0) := by rw [hwz]; exact Bx.new _ _ _
          have BB5 := Lib.hid (belG BB1.out hb BB1.out.size)
          rw [← hwz]
          obtain ⟨ga5, hga⟩ : ∃ g, g = wz1.heap.size := ⟨_, rfl⟩
          rw [← hga] at hx
          (try rw [← hga])
          have HN_5 := Lib.hid hx
          have LEga5 := Lib.hid (show w1.heap.size ≤ ga5 from by rw [hga]; exact BB1.out.size)
          have KY_5 := Lib.hid (KY_1.out.go hb)
          clear hb hx hwz hga
          refine hK.out _ _ (KEEP.out _ BB5.out) (fun hHeld => ?_)
          clear hK K
          (try simp only [Act.put, List.setIfInBounds_toArray, List.set_cons_zero, List.set_cons_succ])
          refine wpAnyH_ready (rs := [5]) (by decide +kernel) (by simp) ?_
          refine AllReadyH.cons rfl (fun K hK => ?_) AllReadyH.nil
          go_simp
          go_at_call 21
          refine (CO2.out _ yk (RA.out.go BB5.out) KY_5.out).mono ?_
          rintro e wz6 ⟨⟨z, rfl, hz⟩, hb⟩
          have BB6 := Lib.hid (belG BB5.out hb BB5.out.size)
          have KY_6 := Lib.hid (KY_5.out.go hb)
          have HN_6 := Lib.hid (Bx.go HN_5.out hb)
          have RZ_6 := Lib.hid hz
          clear hz
          clear hb
          refine hK.out _ _ (KEEP.out _ BB6.out) (fun hHeld => ?_)
          clear hK K
          (try simp only [Act.put, List.setIfInBounds_toArray, List.set_cons_zero, List.set_cons_succ])
          refine wpAnyH_take (i := 6) (oi := ?_) (v := ?_) ?_ (by kernel_rfl) (by decide +kernel) (by decide +kernel) (fun _ _ _ h => h) ?_ (by assumption) ?_
          rotate_left 2
          focus (simp only [List.getElem?_toArray, List.getElem?_cons_succ, List.getElem?_cons_zero] <;> rfl)
          · refine Or.inl ⟨by rfl, ?_⟩
            intro w hSw
            (try dsimp only at hSw)
            go_simp <;> with_reducible rfl
          (try simp only [Act.put, List.setIfInBounds_toArray, List.set_cons_zero, List.set_cons_succ])
          refine wpAnyH_take (i := 7) (oi := ?_) (v := ?_) ?_ (by kernel_rfl) (by decide +kernel) (by decide +kernel) (fun _ _ _ h => h) ?_ (by assumption) ?_
          rotate_left 2
          focus (simp only [List.getElem?_toArray, List.getElem?_cons_succ, List.getElem?_cons_zero] <;> rfl)
          · refine Or.inl ⟨by rfl, ?_⟩
            intro w hSw
            (try dsimp only at hSw)
            go_simp <;> with_reducible rfl
          (try simp only [Act.put, List.setIfInBounds_toArray, List.set_cons_zero, List.set_cons_succ])
          refine wpAnyH_take (i := 8) (oi := ?_) (v := ?_) ?_ (by kernel_rfl) (by decide +kernel) (by decide +kernel) (fun _ _ _ h => h) ?_ (by assumption) ?_
          rotate_left 2
          focus (simp only [List.getElem?_toArray, List.getElem?_cons_succ, List.getElem?_cons_zero] <;> rfl)
          · refine Or.inl ⟨by rfl, ?_⟩
            intro w hSw
            (try dsimp only at hSw)
            go_simp <;> with_reducible rfl
          (try simp only [Act.put, List.setIfInBounds_toArray, List.set_cons_zero, List.set_cons_succ])
          refine wpAnyH_ready (rs := [10]) (by decide +kernel) (by simp) ?_
          refine AllReadyH.cons rfl (fun K hK => ?_) AllReadyH.nil
          rw [if_pos (by rfl)]
          refine wp_storeX (.tmp 8) (.tmp 34) ga5 (ringC z X) _ tyRing rfl (ringC_one _ _) HN_6.out rfl rfl rfl rfl ?_
          (try simp only [Act.put, List.setIfInBounds_toArray])
          obtain ⟨wz7, hwz⟩ : ∃ x, x = wz6.setRow ga5 (ringC z X) := ⟨_, rfl⟩
          have BB7 := Lib.hid (show Below w1.heap.size w1 wz7 from by rw [hwz]; exact Below.setRowG BB6.out LEga5.out _)
          have HN_7 := Lib.hid (show Bx wz7 ga5 _ (ringC z X) from by rw [hwz]; exact Bx.setRow HN_6.out _)
          have hq := KY_6.out.setRow (C' := (ringC z X)) HN_6.out (no8_ring _ _)
          rw [← hwz] at hq
          have KY_7 := Lib.hid hq
          clear hq
          have hq := RZ_6.out.setRow (C' := (ringC z X)) HN_6.out (no8_ring _ _)
          rw [← hwz] at hq
          have RZ_7 := Lib.hid hq
          clear hq
          rw [← hwz]
          clear hwz
          refine hK.out _ _ (KEEP.out _ BB7.out) (fun hHeld => ?_)
          clear hK K
          (try simp only [Act.put, List.setIfInBounds_toArray, List.set_cons_zero, List.set_cons_succ])
          refine wpAnyH_take (i := 11) (oi := ?_) (v := ?_) ?_ (by kernel_rfl) (by decide +kernel) (by decide +kernel) (fun _ _ _ h => h) ?_ (by assumption) ?_
          rotate_left 2
          focus (simp only [List.getElem?_toArray, List.getElem?_cons_succ, List.getElem?_cons_zero] <;> rfl)
          · refine Or.inl ⟨by rfl, ?_⟩
            intro w hSw
            (try dsimp only at hSw)
            go_simp <;> with_reducible rfl
          (try simp only [Act.put])
          refine wpAnyH_done (by decide +kernel) ?_ _
          refine NoPanic.normal ?_
          clear KEEP
          go_wp2_with fail
          go_meet
          case rel => exact ⟨rfl, ga5, z, rfl, HN_7.out, RZ_7.out, BB7.out, LEga5.out⟩
        refine AllReadyH.cons rfl (fun K hK => ?_) AllReadyH.nil
        go_simp
        obtain ⟨wz8, hwz⟩ : ∃ x, x = wz0.alloc (.cells #[.int .i64 0, .slice none 0 0, .int .i64 0, .slice none 0 0, .int .i64 0, .slice none 0 0, .int .i64 0, .int .i64 0] 26) := ⟨_, rfl⟩
        have hb : Below wz0.heap.size wz0 wz8 := by rw [hwz]; exact (Below.refl wz0.heap.size wz0).alloc (Nat.le_refl _) _
        have hx : Bx wz8 wz0.heap.size 26 (ringC wg0 rg0) := by rw [hwz]; exact Bx.new _ _ _
        have BB8 := Lib.hid (belG BB0.out hb BB0.out.size)
        rw [← hwz]
        obtain ⟨ga8, hga⟩ : ∃ g, g = wz0.heap.size := ⟨_, rfl⟩
        rw [← hga] at hx
        (try rw [← hga])
        have HN_8 := Lib.hid hx
        have LEga8 := Lib.hid (show w1.heap.size ≤ ga8 from by rw [hga]; exact BB0.out.size)
        clear hb hx hwz hga
        refine hK.out _ _ (KEEP.out _ BB8.out) (fun hHeld => ?_)
        clear hK K
        (try simp only [Act.put, List.setIfInBounds_toArray, List.set_cons_zero, List.set_cons_succ])
        refine wpAnyH_ready (rs := [4]) (by decide +kernel) (by simp) ?_
        refine AllReadyH.cons rfl (fun K hK => ?_) AllReadyH.nil
        go_simp
        go_at_call 29
        refine (KA.out _).mono ?_
        rintro e wz9 ⟨⟨yk, rfl, hk⟩, hb⟩
        have BB9 := Lib.hid (belG BB8.out hb BB8.out.size)
        have HN_9 := Lib.hid (Bx.go HN_8.out hb)
        have KY_9 := Lib.hid hk
        clear hk
        clear hb
        refine hK.out _ _ (KEEP.out _ BB9.out) (fun hHeld => ?_)
        clear hK K
        (try simp only [Act.put, List.setIfInBounds_toArray, List.set_cons_zero, List.set_cons_succ])
        refine wpAnyH_ready (rs := [5]) (by decide +kernel) (by simp) ?_
        refine AllReadyH.cons rfl (fun K hK => ?_) AllReadyH.nil
        go_simp
        go_at_call 21
        refine (CO2.out _ yk (RA.out.go BB9.out) KY_9.out).mono ?_
        rintro e wz10 ⟨⟨z, rfl, hz⟩, hb⟩
        have BB10 := Lib.hid (belG BB9.out hb BB9.out.size)
        have KY_10 := Lib.hid (KY_9.out.go hb)
        have HN_10 := Lib.hid (Bx.go HN_9.out hb)
        have RZ_10 := Lib.hid hz
        clear hz
        clear hb
        refine hK.out _ _ (KEEP.out _ BB10.out) (fun hHeld => ?_)
        clear hK K
        (try simp only [Act.put, List.setIfInBounds_toArray, List.set_cons_zero, List.set_cons_succ])
        refine wpAnyH_take (i := 6) (oi := ?_) (v := ?_) ?_ (by kernel_rfl) (by decide +kernel) (by decide +kernel) (fun _ _ _ h => h) ?_ (by assumption) ?_
        rotate_left 2
        focus (simp only [List.getElem?_toArray, List.getElem?_cons_succ, List.getElem?_cons_zero] <;> rfl)
        · refine Or.inl ⟨by rfl, ?_⟩
          intro w hSw
          (try dsimp only at hSw)
          go_simp <;> with_reducible rfl
        (try simp only [Act.put, List.setIfInBounds_toArray, List.set_cons_zero, List.set_cons_succ])
        refine wpAnyH_take (i := 7) (oi := ?_) (v := ?_) ?_ (by kernel_rfl) (by decide +kernel) (by decide +kernel) (fun _ _ _ h => h) ?_ (by assumption) ?_
        rotate_left 2
        focus (simp only [List.getElem?_toArray, List.getElem?_cons_succ, List.getElem?_cons_zero] <;> rfl)
        · refine Or.inl ⟨by rfl, ?_⟩
          intro w hSw
          (try dsimp only at hSw)
          go_simp <;> with_reducible rfl
        (try simp only [Act.put, List.setIfInBounds_toArray, List.set_cons_zero, List.set_cons_succ])
        refine wpAnyH_take (i := 8) (oi := ?_) (v := ?_) ?_ (by kernel_rfl) (by decide +kernel) (by decide +kernel) (fun _ _ _ h => h) ?_ (by assumption) ?_
        rotate_left 2
        focus (simp only [List.getElem?_toArray, List.getElem?_cons_succ, List.getElem?_cons_zero] <;> rfl)
        · refine Or.inl ⟨by rfl, ?_⟩
          intro w hSw
          (try dsimp only at hSw)
          go_simp <;> with_reducible rfl
        (try simp only [Act.put, List.setIfInBounds_toArray, List.set_cons_zero, List.set_cons_succ])
        refine wpAnyH_ready (rs := [10]) (by decide +kernel) (by simp) ?_
        refine AllReadyH.cons rfl (fun K hK => ?_) AllReadyH.nil
        rw [if_pos (by rfl)]
        refine wp_storeX (.tmp 8) (.tmp 34) ga8 (ringC z X) _ tyRing rfl (ringC_one _ _) HN_10.out rfl rfl rfl rfl ?_
        (try simp only [Act.put, List.setIfInBounds_toArray])
        obtain ⟨wz11, hwz⟩ : ∃ x, x = wz10.setRow ga8 (ringC z X) := ⟨_, rfl⟩
        have BB11 := Lib.hid (show Below w1.heap.size w1 wz11 from by rw [hwz]; exact Below.setRowG BB10.out LEga8.out _)
        have HN_11 := Lib.hid (show Bx wz11 ga8 _ (ringC z X) from by rw [hwz]; exact Bx.setRow HN_10.out _)
        have hq := KY_10.out.setRow (C' := (ringC z X)) HN_10.out (no8_ring _ _)
        rw [← hwz] at hq
        have KY_11 := Lib.hid hq
        clear hq
        have hq := RZ_10.out.setRow (C' := (ringC z X)) HN_10.out (no8_ring _ _)
        rw [← hwz] at hq
        have RZ_11 := Lib.hid hq
        clear hq
        rw [← hwz]
        clear hwz
        refine hK.out _ _ (KEEP.out _ BB11.out) (fun hHeld => ?_)
        clear hK K
        (try simp only [Act.put, List.setIfInBounds_toArray, List.set_cons_zero, List.set_cons_succ])
        refine wpAnyH_take (i := 11) (oi := ?_) (v := ?_) ?_ (by kernel_rfl) (by decide +kernel) (by decide +kernel) (fun _ _ _ h => h) ?_ (by assumption) ?_
        rotate_left 2
        focus (simp only [List.getElem?_toArray, List.getElem?_cons_succ, List.getElem?_cons_zero] <;> rfl)
        · refine Or.inl ⟨by rfl, ?_⟩
          intro w hSw
          (try dsimp only at hSw)
          go_simp <;> with_reducible rfl
        (try simp only [Act.put])
        refine wpAnyH_done (by decide +kernel) ?_ _
        refine NoPanic.normal ?_
        clear KEEP
        go_wp2_with fail
        go_meet
        case rel => exact ⟨rfl, ga8, z, rfl, HN_11.out, RZ_11.out, BB11.out, LEga8.out⟩
      case rest =>
      obtain ⟨rfl, g8, z2, rfl, hg, hr, hb, hge⟩ := hcut
      obtain ⟨w2, hw⟩ : ∃ x, x = wc := ⟨_, rfl⟩
      rw [← hw] at hg hr hb ⊢
      clear hw
      have nHB := Lib.hid (belG HB.out hb HB.out.size)
      have NEG2G8 := Lib.hid (show W.heap.size ≠ g8 from by have h1 := Bx.lt G2.out; omega)
      have NEG8G2 := Lib.hid (NEG2G8.out.symm)
      have NEG3G8 := Lib.hid (show (W.heap.size + 1) ≠ g8 from by have h1 := Bx.lt G3.out; omega)
      have NEG8G3 := Lib.hid (NEG3G8.out.symm)
      have NEG4G8 := Lib.hid (show (W.heap.size + 2) ≠ g8 from by have h1 := Bx.lt G4.out; omega)
      have NEG8G4 := Lib.hid (NEG4G8.out.symm)
      have LEG8 := Lib.hid (show W.heap.size ≤ g8 from by have h1 := HB.out.size; omega)
      have nRA := Lib.hid (RA.out.go hb)
      have nG2 := Lib.hid (Bx.go G2.out hb)
      have nG3 := Lib.hid (Bx.go G3.out hb)
      have nG4 := Lib.hid (Bx.go G4.out hb)
      have G8 := Lib.hid hg
      have RG8 := Lib.hid hr
      clear hb hg hr hge
      clear HB RA G2 G3 G4
      have HB := nHB
      have RA := nRA
      have G2 := nG2
      have G3 := nG3
      have G4 := nG4
      clear nHB nRA nG2 nG3 nG4
      by_cases he : e = 0
      · subst he
        go_wp2_with (first | (refine loadX (.tmp 8) g8 (ringC z2 X) tyRing rfl G8.out rfl rfl rfl ?_) | (refine storeX (.tmp 4) (.tmp 36) (W.heap.size + 2) (ringC z2 X) _ tyRing rfl (ringC_one _ _) G4.out rfl rfl rfl rfl rfl ?_))
        (try simp only [Exit.inBlock, Exit.then])
        refine bodyPost_ret (retX2 rfl _ _ (W.heap.size + 2) (ringC z2 X) _ tyRing rfl rfl rfl (Bx.setRow G4.out _)) rfl ?_
        exact doneEnd (HD2.out.trans (by first | rfl | (simp; done))) HB.out LEG4.out G4.out RG8.out
      · have hcb : (e == 0) = false := beq_eq_false_iff_ne.2 he
        go_wp2_with (first | (refine loadX (.tmp 8) g8 (ringC z2 X) tyRing rfl G8.out rfl rfl rfl ?_) | (refine storeX (.tmp 4) (.tmp 36) (W.heap.size + 2) (ringC z2 X) _ tyRing rfl (ringC_one _ _) G4.out rfl rfl rfl rfl rfl ?_))
        (try simp only [Exit.inBlock, Exit.then])
        refine bodyPost_ret (retX2 rfl _ _ (W.heap.size + 2) (ringC z2 X) _ tyRing rfl rfl rfl (Bx.setRow G4.out _)) rfl ?_
        exact doneEnd (HD2.out.trans (by first | rfl | (simp [he]; done))) HB.out LEG4.out G4.out RG8.out
    · have HD2 := Lib.hid (show D = (r, false) from HD.out.trans (HDD.out.trans (if_neg hc)))
      have hcb : (c != 0) = true := by simpa using hc
      go_wp2_with (first | (refine loadX (.tmp 2) W.heap.size (ringC xa r) tyRing rfl G2.out rfl rfl rfl ?_) | (refine storeX (.tmp 4) (.tmp 26) (W.heap.size + 2) (ringC xa r) _ tyRing rfl (ringC_one _ _) G4.out rfl rfl rfl rfl rfl ?_))
      (try simp only [Exit.inBlock, Exit.then])
      refine bodyPost_ret (retX2 rfl _ _ (W.heap.size + 2) (ringC xa r) _ tyRing rfl rfl rfl (Bx.setRow G4.out _)) rfl ?_
      exact doneEnd HD2.out HB.out LEG4.out G4.out RA.out
  · have CO := Lib.hid (fun w y h k => offer_any xa r no b y w hR H64.out HBN.out h k)
    have HDD := Lib.hid (show doneR r kd no b = ((offerR r no (keyL b)).1, decide ((offerR r no (keyL b)).2 = 0)) from by unfold doneR; rw [← HJ.out, if_neg (by decide), if_pos rfl])
    generalize offerR r no (keyL b) = P at *
    obtain ⟨X, e⟩ := P
    simp only at CO HDD
    have HD2 := Lib.hid (show D = (X, decide (e = 0)) from HD.out.trans HDD.out)
    go_enter Try.func30, Try.ntmps30
    go_upto_region 1 with (fail)
    rw [← HV.out]
    clear HV
    have y0 := Bx.cell G3.out HC0.out.1
    go_upto_region 9 with fail
    clear y0
    go_cut [10, 11] (fun tp te wx => AnsOf V0 wx tp te X e)
    case first =>
      have BB0 := Lib.hid ((Below.refl V0.heap.size V0).drew)
      have KEEP := Lib.hid (fun w' (hW : Below V0.heap.size V0 w') => (show Below V0.heap.size V0 w' from hW))
      refine wp_region_noPanic ?_
      refine wp_region_held_drew (S := fun w' => Below V0.heap.size V0 w') (by kernel_rfl) (KEEP.out _ BB0.out) (fun hHeld => ?_)
      obtain ⟨wz0, hwz⟩ : ∃ x, x = V0.drew := ⟨_, rfl⟩
      rw [← hwz] at BB0 hHeld ⊢
      clear hwz
      refine wpAnyH_take (i := 0) (oi := ?_) (v := .agg (ringC xa r)) ?_ (by kernel_rfl) (by decide +kernel) (by decide +kernel) (fun _ _ _ h => h) ?_ (by assumption) ?_
      rotate_left 1
      focus (simp only [List.getElem?_toArray, List.getElem?_cons_zero] <;> rfl)
      · refine yieldsX (T := 26) ?_ (.tmp 2) ?_ ⟨W.heap.size, 0, none⟩ ?_ (ringC xa r) ?_
        focus rfl
        focus exact rfl
        focus exact rfl
        exact fun w hSw => run_loadX tyRing rfl (Bx.go G2.out hSw)
      (try simp only [Act.put, List.setIfInBounds_toArray, List.set_cons_zero, List.set_cons_succ])
      refine wpAnyH_take (i := 1) (oi := ?_) (v := ?_) ?_ (by kernel_rfl) (by decide +kernel) (by decide +kernel) (fun _ _ _ h => h) ?_ (by assumption) ?_
      rotate_left 2
      focus (simp only [List.getElem?_toArray, List.getElem?_cons_succ, List.getElem?_cons_zero] <;> rfl)
      · refine Or.inl ⟨by rfl, ?_⟩
        intro w hSw
        (try dsimp only at hSw)
        go_simp <;> with_reducible rfl
      (try simp only [Act.put, List.setIfInBounds_toArray, List.set_cons_zero, List.set_cons_succ])
      refine wpAnyH_take (i := 3) (oi := ?_) (v := ?_) ?_ (by kernel_rfl) (by decide +kernel) (by decide +kernel) (fun _ _ _ h => h) ?_ (by assumption) ?_
      rotate_left 2
      focus (simp only [List.getElem?_toArray, List.getElem?_cons_succ, List.getElem?_cons_zero] <;> rfl)
      · refine Or.inl ⟨by rfl, ?_⟩
        intro w hSw
        (try dsimp only at hSw)
        go_simp <;> with_reducible rfl
      (try simp only [Act.put, List.setIfInBounds_toArray, List.set_cons_zero, List.set_cons_succ])
      refine wpAnyH_take (i := 2) (oi := ?_) (v := ?_) ?_ (by kernel_rfl) (by decide +kernel) (by decide +kernel) (fun _ _ _ h => h) ?_ (by assumption) ?_
      rotate_left 2
      focus (simp only [List.getElem?_toArray, List.getElem?_cons_succ, List.getElem?_cons_zero] <;> rfl)
      · refine Or.inl ⟨by rfl, ?_⟩
        intro w hSw
        have hcell := (Bx.go G3.out hSw).cell (HC0.out.2.1)
        go_simp <;> with_reducible rfl
      (try simp only [Act.put, List.setIfInBounds_toArray, List.set_cons_zero, List.set_cons_succ])
      refine wpAnyH_take (i := 4) (oi := ?_) (v := ?_) ?_ (by kernel_rfl) (by decide +kernel) (by decide +kernel) (fun _ _ _ h => h) ?_ (by assumption) ?_
      rotate_left 2
      focus (simp only [List.getElem?_toArray, List.getElem?_cons_succ, List.getElem?_cons_zero] <;> rfl)
      · refine Or.inl ⟨by rfl, ?_⟩
        intro w hSw
        have hcell := (Bx.go G3.out hSw).cell (HC0.out.2.2)
        go_simp <;> with_reducible rfl
      (try simp only [Act.put, List.setIfInBounds_toArray, List.set_cons_zero, List.set_cons_succ])
      refine wpAnyH_ready (rs := [5, 10]) (by decide +kernel) (by simp) ?_
      refine AllReadyH.cons rfl (fun K hK => ?_) ?_
      · go_simp
        go_at_call 29
        refine (KA.out _).mono ?_
        rintro e wz1 ⟨⟨yk, rfl, hk⟩, hb⟩
        have BB1 := Lib.hid (belG BB0.out hb BB0.out.size)
        have KY_1 := Lib.hid hk
        clear hk
        clear hb
        refine hK.out _ _ (KEEP.out _ BB1.out) (fun hHeld => ?_)
        clear hK K
        (try simp only [Act.put, List.setIfInBounds_toArray, List.set_cons_zero, List.set_cons_succ])
        refine wpAnyH_ready (rs := [6, 10]) (by decide +kernel) (by simp) ?_
        refine AllReadyH.cons rfl (fun K hK => ?_) ?_
        · go_simp
          go_at_call 21
          refine (CO.out _ yk (RA.out.go BB1.out) KY_1.out).mono ?_
          rintro e wz2 ⟨⟨z, rfl, hz⟩, hb⟩
          have BB2 := Lib.hid (belG BB1.out hb BB1.out.size)
          have KY_2 := Lib.hid (KY_1.out.go hb)
          have RZ_2 := Lib.hid hz
          clear hz
          clear hb
          refine hK.out _ _ (KEEP.out _ BB2.out) (fun hHeld => ?_)
          clear hK K
          (try simp only [Act.put, List.setIfInBounds_toArray, List.set_cons_zero, List.set_cons_succ])
          refine wpAnyH_take (i := 7) (oi := ?_) (v := ?_) ?_ (by kernel_rfl) (by decide +kernel) (by decide +kernel) (fun _ _ _ h => h) ?_ (by assumption) ?_
          rotate_left 2
          focus (simp only [List.getElem?_toArray, List.getElem?_cons_succ, List.getElem?_cons_zero] <;> rfl)
          · refine Or.inl ⟨by rfl, ?_⟩
            intro w hSw
            (try dsimp only at hSw)
            go_simp <;> with_reducible rfl
          (try simp only [Act.put, List.setIfInBounds_toArray, List.set_cons_zero, List.set_cons_succ])
          refine wpAnyH_take (i := 8) (oi := ?_) (v := ?_) ?_ (by kernel_rfl) (by decide +kernel) (by decide +kernel) (fun _ _ _ h => h) ?_ (by assumption) ?_
          rotate_left 2
          focus (simp only [List.getElem?_toArray, List.getElem?_cons_succ, List.getElem?_cons_zero] <;> rfl)
          · refine Or.inl ⟨by rfl, ?_⟩
            intro w hSw
            (try dsimp only at hSw)
            go_simp <;> with_reducible rfl
          (try simp only [Act.put, List.setIfInBounds_toArray, List.set_cons_zero, List.set_cons_succ])
          refine wpAnyH_take (i := 9) (oi := ?_) (v := ?_) ?_ (by kernel_rfl) (by decide +kernel) (by decide +kernel) (fun _ _ _ h => h) ?_ (by assumption) ?_
          rotate_left 2
          focus (simp only [List.getElem?_toArray, List.getElem?_cons_succ, List.getElem?_cons_zero] <;> rfl)
          · refine Or.inl ⟨by rfl, ?_⟩
            intro w hSw
            (try dsimp only at hSw)
            go_simp <;> with_reducible rfl
          (try simp only [Act.put, List.setIfInBounds_toArray, List.set_cons_zero, List.set_cons_succ])
          refine wpAnyH_ready (rs := [10]) (by decide +kernel) (by simp) ?_
          refine AllReadyH.cons rfl (fun K hK => ?_) AllReadyH.nil
          go_simp
          obtain ⟨wz3, hwz⟩ : ∃ x, x = wz2.alloc (.cells #[.int .i64 0, .slice none 0 0, .int .i64 0, .slice none 0 0, .int .i64 0, .slice none 0 0, .int .i64 0, .int .i64 0] 26) := ⟨_, rfl⟩
          have hb : Below wz2.heap.size wz2 wz3 := by rw [hwz]; exact (Below.refl wz2.heap.size wz2).alloc (Nat.le_refl _) _
          have hx : Bx wz3 wz2.heap.size 26 (ringC wg0 rg0) := by rw [hwz]; exact Bx.new _ _ _
          have BB3 := Lib.hid (belG BB2.out hb BB2.out.size)
          rw [← hwz]
          obtain ⟨ga3, hga⟩ : ∃ g, g = wz2.heap.size := ⟨_, rfl⟩
          rw [← hga] at hx
          (try rw [← hga])
          have HN_3 := Lib.hid hx
          have LEga3 := Lib.hid (show V0.heap.size ≤ ga3 from by rw [hga]; exact BB2.out.size)
          have KY_3 := Lib.hid (KY_2.out.go hb)
          have RZ_3 := Lib.hid (RZ_2.out.go hb)
          clear hb hx hwz hga
          refine hK.out _ _ (KEEP.out _ BB3.out) (fun hHeld => ?_)
          clear hK K
          (try simp only [Act.put, List.setIfInBounds_toArray, List.set_cons_zero, List.set_cons_succ])
          refine wpAnyH_ready (rs := [11]) (by decide +kernel) (by simp) ?_
          refine AllReadyH.cons rfl (fun K hK => ?_) AllReadyH.nil
          rw [if_pos (by rfl)]
          refine wp_storeX (.tmp 10) (.tmp 49) ga3 (ringC z X) _ tyRing rfl (ringC_one _ _) HN_3.out rfl rfl rfl rfl ?_
          (try simp only [Act.put, List.setIfInBounds_toArray])
          obtain ⟨wz4, hwz⟩ : ∃ x, x = wz3.setRow ga3 (ringC z X) := ⟨_, rfl⟩
          have BB4 := Lib.hid (show Below V0.heap.size V0 wz4 from by rw [hwz]; exact Below.setRowG BB3.out LEga3.out _)
          have HN_4 := Lib.hid (show Bx wz4 ga3 _ (ringC z X) from by rw [hwz]; exact Bx.setRow HN_3.out _)
          have hq := KY_3.out.setRow (C' := (ringC z X)) HN_3.out (no8_ring _ _)
          rw [← hwz] at hq
          have KY_4 := Lib.hid hq
          clear hq
          have hq := RZ_3.out.setRow (C' := (ringC z X)) HN_3.out (no8_ring _ _)
          rw [← hwz] at hq
          have RZ_4 := Lib.hid hq
          clear hq
          rw [← hwz]
          clear hwz
          refine hK.out _ _ (KEEP.out _ BB4.out) (fun hHeld => ?_)
          clear hK K
          (try simp only [Act.put, List.setIfInBounds_toArray, List.set_cons_zero, List.set_cons_succ])
          refine wpAnyH_take (i := 12) (oi := ?_) (v := ?_) ?_ (by kernel_rfl) (by decide +kernel) (by decide +kernel) (fun _ _ _ h => h) ?_ (by assumption) ?_
          rotate_left 2
          focus (simp only [List.getElem?_toArray, List.getElem?_cons_succ, List.getElem?_cons_zero] <;> rfl)
          · refine Or.inl ⟨by rfl, ?_⟩
            intro w hSw
            (try dsimp only at hSw)
            go_simp <;> with_reducible rfl
          (try simp only [Act.put])
          refine wpAnyH_done (by decide +kernel) ?_ _
          refine NoPanic.normal ?_
          clear KEEP
          go_wp2_with fail
          go_meet
          case rel => exact ⟨rfl, ga3, z, rfl, HN_4.out, RZ_4.out, BB4.out, LEga3.out⟩
        refine AllReadyH.cons rfl (fun K hK => ?_) AllReadyH.nil
        go_simp
        obtain ⟨wz5, hwz⟩ : ∃ x, x = wz1.alloc (.cells #[.int .i64 0, .slice none 0 0, .int .i64 0, .slice none 0 0, .int .i64 0, .slice none 0 0, .int .i64 0, .int .i64 0] 26) := ⟨_, rfl⟩
        have hb : Below wz1.heap.size wz1 wz5 := by rw [hwz]; exact (Below.refl wz1.heap.size wz1).alloc (Nat.le_refl _) _
        have hx : Bx wz5 wz1.heap.size 26 (ringC wg0 rg0) := by rw [hwz]; exact Bx.new _ _ _
        have BB5 := Lib.hid (belG BB1.out hb BB1.out.size)
        rw [← hwz]
        obtain ⟨ga5, hga⟩ : ∃ g, g = wz1.heap.size := ⟨_, rfl⟩
        rw [← hga] at hx
        (try rw [← hga])
        have HN_5 := Lib.hid hx
        have LEga5 := Lib.hid (show V0.heap.size ≤ ga5 from by rw [hga]; exact BB1.out.size)
        have KY_5 := Lib.hid (KY_1.out.go hb)
        clear hb hx hwz hga
        refine hK.out _ _ (KEEP.out _ BB5.out) (fun hHeld => ?_)
        clear hK K
        (try simp only [Act.put, List.setIfInBounds_toArray, List.set_cons_zero, List.set_cons_succ])
        refine wpAnyH_ready (rs := [6]) (by decide +kernel) (by simp) ?_
        refine AllReadyH.cons rfl (fun K hK => ?_) AllReadyH.nil
        go_simp
        go_at_call 21
        refine (CO.out _ yk (RA.out.go BB5.out) KY_5.out).mono ?_
        rintro e wz6 ⟨⟨z, rfl, hz⟩, hb⟩
        have BB6 := Lib.hid (belG BB5.out hb BB5.out.size)
        have KY_6 := Lib.hid (KY_5.out.go hb)
        have HN_6 := Lib.hid (Bx.go HN_5.out hb)
        have RZ_6 := Lib.hid hz
        clear hz
        clear hb
        refine hK.out _ _ (KEEP.out _ BB6.out) (fun hHeld => ?_)
        clear hK K
        (try simp only [Act.put, List.setIfInBounds_toArray, List.set_cons_zero, List.set_cons_succ])
        refine wpAnyH_take (i := 7) (oi := ?_) (v := ?_) ?_ (by kernel_rfl) (by decide +kernel) (by decide +kernel) (fun _ _ _ h => h) ?_ (by assumption) ?_
        rotate_left 2
        focus (simp only [List.getElem?_toArray, List.getElem?_cons_succ, List.getElem?_cons_zero] <;> rfl)
        · refine Or.inl ⟨by rfl, ?_⟩
          intro w hSw
          (try dsimp only at hSw)
          go_simp <;> with_reducible rfl
        (try simp only [Act.put, List.setIfInBounds_toArray, List.set_cons_zero, List.set_cons_succ])
        refine wpAnyH_take (i := 8) (oi := ?_) (v := ?_) ?_ (by kernel_rfl) (by decide +kernel) (by decide +kernel) (fun _ _ _ h => h) ?_ (by assumption) ?_
        rotate_left 2
        focus (simp only [List.getElem?_toArray, List.getElem?_cons_succ, List.getElem?_cons_zero] <;> rfl)
        · refine Or.inl ⟨by rfl, ?_⟩
          intro w hSw
          (try dsimp only at hSw)
          go_simp <;> with_reducible rfl
        (try simp only [Act.put, List.setIfInBounds_toArray, List.set_cons_zero, List.set_cons_succ])
        refine wpAnyH_take (i := 9) (oi := ?_) (v := ?_) ?_ (by kernel_rfl) (by decide +kernel) (by decide +kernel) (fun _ _ _ h => h) ?_ (by assumption) ?_
        rotate_left 2
        focus (simp only [List.getElem?_toArray, List.getElem?_cons_succ, List.getElem?_cons_zero] <;> rfl)
        · refine Or.inl ⟨by rfl, ?_⟩
          intro w hSw
          (try dsimp only at hSw)
          go_simp <;> with_reducible rfl
        (try simp only [Act.put, List.setIfInBounds_toArray, List.set_cons_zero, List.set_cons_succ])
        refine wpAnyH_ready (rs := [11]) (by decide +kernel) (by simp) ?_
        refine AllReadyH.cons rfl (fun K hK => ?_) AllReadyH.nil
        rw [if_pos (by rfl)]
        refine wp_storeX (.tmp 10) (.tmp 49) ga5 (ringC z X) _ tyRing rfl (ringC_one _ _) HN_6.out rfl rfl rfl rfl ?_
        (try simp only [Act.put, List.setIfInBounds_toArray])
        obtain ⟨wz7, hwz⟩ : ∃ x, x = wz6.setRow ga5 (ringC z X) := ⟨_, rfl⟩
        have BB7 := Lib.hid (show Below V0.heap.size V0 wz7 from by rw [hwz]; exact Below.setRowG BB6.out LEga5.out _)
        have HN_7 := Lib.hid (show Bx wz7 ga5 _ (ringC z X) from by rw [hwz]; exact Bx.setRow HN_6.out _)
        have hq := KY_6.out.setRow (C' := (ringC z X)) HN_6.out (no8_ring _ _)
        rw [← hwz] at hq
        have KY_7 := Lib.hid hq
        clear hq
        have hq := RZ_6.out.setRow (C' := (ringC z X)) HN_6.out (no8_ring _ _)
        rw [← hwz] at hq
        have RZ_7 := Lib.hid hq
        clear hq
        rw [← hwz]
        clear hwz
        refine hK.out _ _ (KEEP.out _ BB7.out) (fun hHeld => ?_)
        clear hK K
        (try simp only [Act.put, List.setIfInBounds_toArray, List.set_cons_zero, List.set_cons_succ])
        refine wpAnyH_take (i := 12) (oi := ?_) (v := ?_) ?_ (by kernel_rfl) (by decide +kernel) (by decide +kernel) (fun _ _ _ h => h) ?_ (by assumption) ?_
        rotate_left 2
        focus (simp only [List.getElem?_toArray, List.getElem?_cons_succ, List.getElem?_cons_zero] <;> rfl)
        · refine Or.inl ⟨by rfl, ?_⟩
          intro w hSw
          (try dsimp only at hSw)
          go_simp <;> with_reducible rfl
        (try simp only [Act.put])
        refine wpAnyH_done (by decide +kernel) ?_ _
        refine NoPanic.normal ?_
        clear KEEP
        go_wp2_with fail
        go_meet
        case rel => exact ⟨rfl, ga5, z, rfl, HN_7.out, RZ_7.out, BB7.out, LEga5.out⟩
      refine AllReadyH.cons rfl (fun K hK => ?_) AllReadyH.nil
      go_simp
      obtain ⟨wz8, hwz⟩ : ∃ x, x = wz0.alloc (.cells #[.int .i64 0, .slice none 0 0, .int .i64 0, .slice none 0 0, .int .i64 0, .slice none 0 0, .int .i64 0, .int .i64 0] 26) := ⟨_, rfl⟩
      have hb : Below wz0.heap.size wz0 wz8 := by rw [hwz]; exact (Below.refl wz0.heap.size wz0).alloc (Nat.le_refl _) _
      have hx : Bx wz8 wz0.heap.size 26 (ringC wg0 rg0) := by rw [hwz]; exact Bx.new _ _ _
      have BB8 := Lib.hid (belG BB0.out hb BB0.out.size)
      rw [← hwz]
      obtain ⟨ga8, hga⟩ : ∃ g, g = wz0.heap.size := ⟨_, rfl⟩
      rw [← hga] at hx
      (try rw [← hga])
      have HN_8 := Lib.hid hx
      have LEga8 := Lib.hid (show V0.heap.size ≤ ga8 from by rw [hga]; exact BB0.out.size)
      clear hb hx hwz hga
      refine hK.out _ _ (KEEP.out _ BB8.out) (fun hHeld => ?_)
      clear hK K
      (try simp only [Act.put, List.setIfInBounds_toArray, List.set_cons_zero, List.set_cons_succ])
      refine wpAnyH_ready (rs := [5]) (by decide +kernel) (by simp) ?_
      refine AllReadyH.cons rfl (fun K hK => ?_) AllReadyH.nil
      go_simp
      go_at_call 29
      refine (KA.out _).mono ?_
      rintro e wz9 ⟨⟨yk, rfl, hk⟩, hb⟩
      have BB9 := Lib.hid (belG BB8.out hb BB8.out.size)
      have HN_9 := Lib.hid (Bx.go HN_8.out hb)
      have KY_9 := Lib.hid hk
      clear hk
      clear hb
      refine hK.out _ _ (KEEP.out _ BB9.out) (fun hHeld => ?_)
      clear hK K
      (try simp only [Act.put, List.setIfInBounds_toArray, List.set_cons_zero, List.set_cons_succ])
      refine wpAnyH_ready (rs := [6]) (by decide +kernel) (by simp) ?_
      refine AllReadyH.cons rfl (fun K hK => ?_) AllReadyH.nil
      go_simp
      go_at_call 21
      refine (CO.out _ yk (RA.out.go BB9.out) KY_9.out).mono ?_
      rintro e wz10 ⟨⟨z, rfl, hz⟩, hb⟩
      have BB10 := Lib.hid (belG BB9.out hb BB9.out.size)
      have KY_10 := Lib.hid (KY_9.out.go hb)
      have HN_10 := Lib.hid (Bx.go HN_9.out hb)
      have RZ_10 := Lib.hid hz
      clear hz
      clear hb
      refine hK.out _ _ (KEEP.out _ BB10.out) (fun hHeld => ?_)
      clear hK K
      (try simp only [Act.put, List.setIfInBounds_toArray, List.set_cons_zero, List.set_cons_succ])
      refine wpAnyH_take (i := 7) (oi := ?_) (v := ?_) ?_ (by kernel_rfl) (by decide +kernel) (by decide +kernel) (fun _ _ _ h => h) ?_ (by assumption) ?_
      rotate_left 2
      focus (simp only [List.getElem?_toArray, List.getElem?_cons_succ, List.getElem?_cons_zero] <;> rfl)
      · refine Or.inl ⟨by rfl, ?_⟩
        intro w hSw
        (try dsimp only at hSw)
        go_simp <;> with_reducible rfl
      (try simp only [Act.put, List.setIfInBounds_toArray, List.set_cons_zero, List.set_cons_succ])
      refine wpAnyH_take (i := 8) (oi := ?_) (v := ?_) ?_ (by kernel_rfl) (by decide +kernel) (by decide +kernel) (fun _ _ _ h => h) ?_ (by assumption) ?_
      rotate_left 2
      focus (simp only [List.getElem?_toArray, List.getElem?_cons_succ, List.getElem?_cons_zero] <;> rfl)
      · refine Or.inl ⟨by rfl, ?_⟩
        intro w hSw
        (try dsimp only at hSw)
        go_simp <;> with_reducible rfl
      (try simp only [Act.put, List.setIfInBounds_toArray, List.set_cons_zero, List.set_cons_succ])
      refine wpAnyH_take (i := 9) (oi := ?_) (v := ?_) ?_ (by kernel_rfl) (by decide +kernel) (by decide +kernel) (fun _ _ _ h => h) ?_ (by assumption) ?_
      rotate_left 2
      focus (simp only [List.getElem?_toArray, List.getElem?_cons_succ, List.getElem?_cons_zero] <;> rfl)
      · refine Or.inl ⟨by rfl, ?_⟩
        intro w hSw
        (try dsimp only at hSw)
        go_simp <;> with_reducible rfl
      (try simp only [Act.put, List.setIfInBounds_toArray, List.set_cons_zero, List.set_cons_succ])
      refine wpAnyH_ready (rs := [11]) (by decide +kernel) (by simp) ?_
      refine AllReadyH.cons rfl (fun K hK => ?_) AllReadyH.nil
      rw [if_pos (by rfl)]
      refine wp_storeX (.tmp 10) (.tmp 49) ga8 (ringC z X) _ tyRing rfl (ringC_one _ _) HN_10.out rfl rfl rfl rfl ?_
      (try simp only [Act.put, List.setIfInBounds_toArray])
      obtain ⟨wz11, hwz⟩ : ∃ x, x = wz10.setRow ga8 (ringC z X) := ⟨_, rfl⟩
      have BB11 := Lib.hid (show Below V0.heap.size V0 wz11 from by rw [hwz]; exact Below.setRowG BB10.out LEga8.out _)
      have HN_11 := Lib.hid (show Bx wz11 ga8 _ (ringC z X) from by rw [hwz]; exact Bx.setRow HN_10.out _)
      have hq := KY_10.out.setRow (C' := (ringC z X)) HN_10.out (no8_ring _ _)
      rw [← hwz] at hq
      have KY_11 := Lib.hid hq
      clear hq
      have hq := RZ_10.out.setRow (C' := (ringC z X)) HN_10.out (no8_ring _ _)
      rw [← hwz] at hq
      have RZ_11 := Lib.hid hq
      clear hq
      rw [← hwz]
      clear hwz
      refine hK.out _ _ (KEEP.out _ BB11.out) (fun hHeld => ?_)
      clear hK K
      (try simp only [Act.put, List.setIfInBounds_toArray, List.set_cons_zero, List.set_cons_succ])
      refine wpAnyH_take (i := 12) (oi := ?_) (v := ?_) ?_ (by kernel_rfl) (by decide +kernel) (by decide +kernel) (fun _ _ _ h => h) ?_ (by assumption) ?_
      rotate_left 2
      focus (simp only [List.getElem?_toArray, List.getElem?_cons_succ, List.getElem?_cons_zero] <;> rfl)
      · refine Or.inl ⟨by rfl, ?_⟩
        intro w hSw
        (try dsimp only at hSw)
        go_simp <;> with_reducible rfl
      (try simp only [Act.put])
      refine wpAnyH_done (by decide +kernel) ?_ _
      refine NoPanic.normal ?_
      clear KEEP
      go_wp2_with fail
      go_meet
      case rel => exact ⟨rfl, ga8, z, rfl, HN_11.out, RZ_11.out, BB11.out, LEga8.out⟩
    case rest =>
    obtain ⟨rfl, g10, z1, rfl, hg, hr, hb, hge⟩ := hcut
    obtain ⟨w1, hw⟩ : ∃ x, x = wc := ⟨_, rfl⟩
    rw [← hw] at hg hr hb ⊢
    clear hw
    have nHB := Lib.hid (belG HB.out hb HB.out.size)
    have NEG2G10 := Lib.hid (show W.heap.size ≠ g10 from by have h1 := Bx.lt G2.out; omega)
    have NEG10G2 := Lib.hid (NEG2G10.out.symm)
    have NEG3G10 := Lib.hid (show (W.heap.size + 1) ≠ g10 from by have h1 := Bx.lt G3.out; omega)
    have NEG10G3 := Lib.hid (NEG3G10.out.symm)
    have NEG4G10 := Lib.hid (show (W.heap.size + 2) ≠ g10 from by have h1 := Bx.lt G4.out; omega)
    have NEG10G4 := Lib.hid (NEG4G10.out.symm)
    have LEG10 := Lib.hid (show W.heap.size ≤ g10 from by have h1 := HB.out.size; omega)
    have nRA := Lib.hid (RA.out.go hb)
    have nG2 := Lib.hid (Bx.go G2.out hb)
    have nG3 := Lib.hid (Bx.go G3.out hb)
    have nG4 := Lib.hid (Bx.go G4.out hb)
    have G10 := Lib.hid hg
    have RG10 := Lib.hid hr
    clear hb hg hr hge
    clear HB RA G2 G3 G4
    have HB := nHB
    have RA := nRA
    have G2 := nG2
    have G3 := nG3
    have G4 := nG4
    clear nHB nRA nG2 nG3 nG4
    by_cases he : e = 0
    · subst he
      go_wp2_with (first | (refine loadX (.tmp 10) g10 (ringC z1 X) tyRing rfl G10.out rfl rfl rfl ?_) | (refine storeX (.tmp 4) (.tmp 51) (W.heap.size + 2) (ringC z1 X) _ tyRing rfl (ringC_one _ _) G4.out rfl rfl rfl rfl rfl ?_))
      (try simp only [Exit.inBlock, Exit.then])
      refine bodyPost_ret (retX2 rfl _ _ (W.heap.size + 2) (ringC z1 X) _ tyRing rfl rfl rfl (Bx.setRow G4.out _)) rfl ?_
      exact doneEnd (HD2.out.trans (by first | rfl | (simp; done))) HB.out LEG4.out G4.out RG10.out
    · have hcb : (e == 0) = false := beq_eq_false_iff_ne.2 he
      go_wp2_with (first | (refine loadX (.tmp 10) g10 (ringC z1 X) tyRing rfl G10.out rfl rfl rfl ?_) | (refine storeX (.tmp 4) (.tmp 51) (W.heap.size + 2) (ringC z1 X) _ tyRing rfl (ringC_one _ _) G4.out rfl rfl rfl rfl rfl ?_))
      (try simp only [Exit.inBlock, Exit.then])
      refine bodyPost_ret (retX2 rfl _ _ (W.heap.size + 2) (ringC z1 X) _ tyRing rfl rfl rfl (Bx.setRow G4.out _)) rfl ?_
      exact doneEnd (HD2.out.trans (by first | rfl | (simp [he]; done))) HB.out LEG4.out G4.out RG10.out
  · have CO := Lib.hid (fun w h => rTurn_any xa r w hR H64.out h)
    have HDD := Lib.hid (show doneR r kd no b = ((turnR r).1, decide ((turnR r).2 = 0)) from by unfold doneR; rw [← HJ.out, if_neg (by decide), if_neg (by decide), if_pos rfl])
    unfold AnsRg at CO
    generalize turnR r = P at *
    obtain ⟨X, e⟩ := P
    simp only at CO HDD
    have HD2 := Lib.hid (show D = (X, decide (e = 0)) from HD.out.trans HDD.out)
    go_enter Try.func30, Try.ntmps30
    go_upto_region 1 with (fail)
    rw [← HV.out]
    clear HV
    have y0 := Bx.cell G3.out HC0.out.1
    go_upto_region 12 with fail
    clear y0
    go_wp2_with (refine loadX (.tmp 2) W.heap.size (ringC xa r) tyRing rfl G2.out rfl rfl rfl ?_)
    refine (CO.out _ RA.out).mono ?_
    rintro e w1 ⟨⟨z, rfl, hr⟩, hb⟩
    have nHB := Lib.hid (belG HB.out hb HB.out.size)
    have nRA := Lib.hid (RA.out.go hb)
    have nG2 := Lib.hid (Bx.go G2.out hb)
    have nG3 := Lib.hid (Bx.go G3.out hb)
    have nG4 := Lib.hid (Bx.go G4.out hb)
    clear hb
    clear HB RA G2 G3 G4
    have HB := nHB
    have RA := nRA
    have G2 := nG2
    have G3 := nG3
    have G4 := nG4
    clear nHB nRA nG2 nG3 nG4
    have RG12 := Lib.hid hr
    clear hr
    have LB := Lib.hid HB.out.size
    have LTG2 := Lib.hid (show W.heap.size < w1.heap.size from Bx.lt G2.out)
    have LTG3 := Lib.hid (show (W.heap.size + 1) < w1.heap.size from Bx.lt G3.out)
    have LTG4 := Lib.hid (show (W.heap.size + 2) < w1.heap.size from Bx.lt G4.out)
    obtain ⟨V1, hV1⟩ : ∃ V, V = w1.alloc (.cells (ringC z X) 26) := ⟨_, rfl⟩
    have ha := (Below.refl w1.heap.size w1).alloc (Nat.le_refl _) (.cells (ringC z X) 26)
    have hg := heap_alloc_new w1 (.cells (ringC z X) 26)
    have nHB := Lib.hid (HB.out.alloc HB.out.size (.cells (ringC z X) 26))
    rw [← hV1] at ha hg nHB
    have nRA := Lib.hid (RA.out.go ha)
    have nRG12 := Lib.hid (RG12.out.go ha)
    have nG2 := Lib.hid (Bx.go G2.out ha)
    have nG3 := Lib.hid (Bx.go G3.out ha)
    have nG4 := Lib.hid (Bx.go G4.out ha)
    obtain ⟨g12, hg12⟩ : ∃ g, g = w1.heap.size := ⟨_, rfl⟩
    rw [← hg12] at hg
    have HXG12 := Lib.hid hg12
    have G12 := Lib.hid hg
    have HV := Lib.hid hV1
    clear ha hg hV1 hg12
    clear HB RA RG12 G2 G3 G4
    have HB := nHB
    have RA := nRA
    have RG12 := nRG12
    have G2 := nG2
    have G3 := nG3
    have G4 := nG4
    clear nHB nRA nRG12 nG2 nG3 nG4
    have LEG12 := Lib.hid (show W.heap.size ≤ g12 from by rw [HXG12.out]; exact LB.out)
    have NEG2G12 := Lib.hid (show W.heap.size ≠ g12 from by have h1 := LTG2.out; rw [HXG12.out]; omega)
    have NEG12G2 := Lib.hid (NEG2G12.out.symm)
    have NEG3G12 := Lib.hid (show (W.heap.size + 1) ≠ g12 from by have h1 := LTG3.out; rw [HXG12.out]; omega)
    have NEG12G3 := Lib.hid (NEG3G12.out.symm)
    have NEG4G12 := Lib.hid (show (W.heap.size + 2) ≠ g12 from by have h1 := LTG4.out; rw [HXG12.out]; omega)
    have NEG12G4 := Lib.hid (NEG4G12.out.symm)
    clear LB LTG2 LTG3 LTG4
    go_upto_region 13 with (refine storeX (.tmp 12) (.tmp 59) _ (ringC z X) _ tyRing rfl (ringC_one _ _) (heap_alloc_new _ _) rfl rfl rfl rfl rfl ?_; rw [setRowG_fold])
    rw [← HV.out]
    (try rw [← HXG12.out])
    clear HV HXG12
    by_cases he : e = 0
    · subst he
      go_wp2_with (first | (refine loadX (.tmp 12) g12 (ringC z X) tyRing rfl G12.out rfl rfl rfl ?_) | (refine storeX (.tmp 4) (.tmp 61) (W.heap.size + 2) (ringC z X) _ tyRing rfl (ringC_one _ _) G4.out rfl rfl rfl rfl rfl ?_))
      (try simp only [Exit.inBlock, Exit.then])
      refine bodyPost_ret (retX2 rfl _ _ (W.heap.size + 2) (ringC z X) _ tyRing rfl rfl rfl (Bx.setRow G4.out _)) rfl ?_
      exact doneEnd (HD2.out.trans (by first | rfl | (simp; done))) HB.out LEG4.out G4.out RG12.out
    · have hcb : (e == 0) = false := beq_eq_false_iff_ne.2 he
      go_wp2_with (first | (refine loadX (.tmp 12) g12 (ringC z X) tyRing rfl G12.out rfl rfl rfl ?_) | (refine storeX (.tmp 4) (.tmp 61) (W.heap.size + 2) (ringC z X) _ tyRing rfl (ringC_one _ _) G4.out rfl rfl rfl rfl rfl ?_))
      (try simp only [Exit.inBlock, Exit.then])
      refine bodyPost_ret (retX2 rfl _ _ (W.heap.size + 2) (ringC z X) _ tyRing rfl rfl rfl (Bx.setRow G4.out _)) rfl ?_
      exact doneEnd (HD2.out.trans (by first | rfl | (simp [he]; done))) HB.out LEG4.out G4.out RG12.out
  · have CO := Lib.hid (fun w h => rWithdraw_any xa r w hR H64.out h)
    have HDD := Lib.hid (show doneR r kd no b = (withdrawR r, true) from by unfold doneR; rw [← HJ.out, if_neg (by decide), if_neg (by decide), if_neg (by decide), if_pos rfl])
    unfold AnsR1 at CO
    generalize withdrawR r = X at *
    have HD2 := Lib.hid (show D = (X, true) from HD.out.trans HDD.out)
    go_enter Try.func30, Try.ntmps30
    go_upto_region 1 with (fail)
    rw [← HV.out]
    clear HV
    have y0 := Bx.cell G3.out HC0.out.1
    go_upto_region 15 with fail
    clear y0
    go_wp2_with (refine loadX (.tmp 2) W.heap.size (ringC xa r) tyRing rfl G2.out rfl rfl rfl ?_)
    refine (CO.out _ RA.out).mono ?_
    rintro e w1 ⟨⟨z, rfl, hr⟩, hb⟩
    have nHB := Lib.hid (belG HB.out hb HB.out.size)
    have nRA := Lib.hid (RA.out.go hb)
    have nG2 := Lib.hid (Bx.go G2.out hb)
    have nG3 := Lib.hid (Bx.go G3.out hb)
    have nG4 := Lib.hid (Bx.go G4.out hb)
    clear hb
    clear HB RA G2 G3 G4
    have HB := nHB
    have RA := nRA
    have G2 := nG2
    have G3 := nG3
    have G4 := nG4
    clear nHB nRA nG2 nG3 nG4
    have RZ := Lib.hid hr
    clear hr
    go_wp2_with (refine storeX (.tmp 4) (.tmp 67) (W.heap.size + 2) (ringC z X) _ tyRing rfl (ringC_one _ _) G4.out rfl rfl rfl rfl rfl ?_)
    (try simp only [Exit.inBlock, Exit.then])
    refine bodyPost_ret (retX2 rfl _ _ (W.heap.size + 2) (ringC z X) _ tyRing rfl rfl rfl (Bx.setRow G4.out _)) rfl ?_
    exact doneEnd HD2.out HB.out LEG4.out G4.out RZ.out
  · have CO := Lib.hid (fun w h => rTick_any xa r w hR H64.out h)
    have HDD := Lib.hid (show doneR r kd no b = (tickR r, true) from by unfold doneR; rw [← HJ.out, if_neg (by decide), if_neg (by decide), if_neg (by decide), if_neg (by decide)])
    unfold AnsR1 at CO
    generalize tickR r = X at *
    have HD2 := Lib.hid (show D = (X, true) from HD.out.trans HDD.out)
    go_enter Try.func30, Try.ntmps30
    go_upto_region 1 with (fail)
    rw [← HV.out]
    clear HV
    have y0 := Bx.cell G3.out HC0.out.1
    go_upto_region 16 with fail
    clear y0
    go_wp2_with (refine loadX (.tmp 2) W.heap.size (ringC xa r) tyRing rfl G2.out rfl rfl rfl ?_)
    refine (CO.out _ RA.out).mono ?_
    rintro e w1 ⟨⟨z, rfl, hr⟩, hb⟩
    have nHB := Lib.hid (belG HB.out hb HB.out.size)
    have nRA := Lib.hid (RA.out.go hb)
    have nG2 := Lib.hid (Bx.go G2.out hb)
    have nG3 := Lib.hid (Bx.go G3.out hb)
    have nG4 := Lib.hid (Bx.go G4.out hb)
    clear hb
    clear HB RA G2 G3 G4
    have HB := nHB
    have RA := nRA
    have G2 := nG2
    have G3 := nG3
    have G4 := nG4
    clear nHB nRA nG2 nG3 nG4
    have RZ := Lib.hid hr
    clear hr
    go_wp2_with (refine storeX (.tmp 4) (.tmp 69) (W.heap.size + 2) (ringC z X) _ tyRing rfl (ringC_one _ _) G4.out rfl rfl rfl rfl rfl ?_)
    (try simp only [Exit.inBlock, Exit.then])
    refine bodyPost_ret (retX2 rfl _ _ (W.heap.size + 2) (ringC z X) _ tyRing rfl rfl rfl (Bx.setRow G4.out _)) rfl ?_
    exact doneEnd HD2.out HB.out LEG4.out G4.out RZ.out
end Go.Proofs.Ytgnccfcdonoegaa
