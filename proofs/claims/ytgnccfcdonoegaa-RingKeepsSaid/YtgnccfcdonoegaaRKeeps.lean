
/- RingKeeps' walk. -/
import Derived.Test.YtgnccfcdonoegaaRDone
import Derived.Test.YtgnccfcdonoegaaRgI
namespace Go.Proofs.Ytgnccfcdonoegaa
open Go.RowKit

set_option maxRecDepth 100000 in
theorem done_is {r : Rg} {kd : Nat} {no : Int} {b : UInt8} {X : Rg} {ok : Bool} (h : doneR r kd no b = (X, ok)) (x : Wg) (w : World) (hR : RightR r) (hn : B64r no) (hkd : kd < 256) (hr : RingR w x r) (nb : Nat) (hnb : nb = b.toNat) :
    Calls Try.prog 30 #[.agg (ringC x r), .agg #[.int .u8 (kd : Nat), .int .i64 no, .int .u8 (nb : Nat)]] w fun e W' => (∃ z, e = .returned (.tuple #[.agg (ringC z X), .bool ok]) ∧ RingR W' z X) ∧ Below w.heap.size w W' := by
  have h1 := done_any x r kd no b w hR hn hr hkd
  rw [h] at h1
  subst hnb
  exact h1
set_option maxRecDepth 100000 in
set_option maxHeartbeats 8000000 in
theorem ringKeeps_walk (A : Option Addr) (l : List Stp) (c : Nat) (W : World) (_hlc : l.length ≤ c) (_hcm : c ≤ 9223372036854775807) (hl : Steps W W.heap.size A l) :
    Calls Try.prog 5 #[.slice A l.length c] W fun e W' => e = .returned (.bool true) ∧ Below W.heap.size W W' := by
  have HST := Lib.hid hl
  obtain ⟨n, hn⟩ : ∃ n, n = l.length := ⟨_, rfl⟩
  rw [← hn]
  have HN := Lib.hid hn
  clear hn hl
  have KA := Lib.hid (fun w => ex11_key 0 0 rfl w)
  have HB := Lib.hid (Below.refl W.heap.size W)
  go_enter Try.func5, Try.ntmps5
  go_wp2_with fail
  refine (shown11_any _).mono ?_
  rintro e w1 ⟨rfl, hb⟩
  have nHB := Lib.hid (belG HB.out hb HB.out.size)
  clear hb
  clear HB 
  have HB := nHB
  clear nHB 
  go_upto_region 2 with fail
  by_cases h30 : 30 < n
  case pos =>
    have h30i : (30 : Int) < (n : Int) := by omega
    go_wp2_with fail
    go_ret
    exact ⟨rfl, HB.out⟩
  have h30i : ¬ (30 : Int) < (n : Int) := by omega
  have CN := Lib.hid (fun (y : Wk) w (h : KeyR w y (keyL 0)) => (show Calls Try.prog 10 #[.slice y.1 32 y.2] w fun e W' => (∃ z, e = .returned (.tuple #[.agg (ringC z (newR (keyL 0)).1), .int .i64 0]) ∧ RingR W' z (newR (keyL 0)).1) ∧ Below w.heap.size w W' from by
    have h1 := rNew_any y.1 (keyL 0) y.2 w (by rw [keyL_len]; decide) h
    rw [keyL_len, show (newR (keyL 0)).2 = 0 by unfold newR; rw [if_pos (keyL_len 0)]] at h1
    exact h1))
  have HK := Lib.hid (KeepI.new (keyL_len 0))
  generalize (newR (keyL 0)).1 = r0 at *
  go_wp2_with fail
  refine (KA.out _).mono ?_
  rintro e w2 ⟨⟨y1, rfl, hk⟩, hb⟩
  have nHB := Lib.hid (belG HB.out hb HB.out.size)
  clear hb
  clear HB 
  have HB := nHB
  clear nHB 
  have RK1 := Lib.hid hk
  clear hk
  go_wp2_with fail
  refine (CN.out y1 _ RK1.out).mono ?_
  rintro e w3 ⟨⟨x4, rfl, hr⟩, hb⟩
  have nHB := Lib.hid (belG HB.out hb HB.out.size)
  have nRK1 := Lib.hid (RK1.out.go hb)
  clear hb
  clear HB RK1
  have HB := nHB
  have RK1 := nRK1
  clear nHB nRK1
  have RG4 := Lib.hid hr
  clear hr
  have LB := Lib.hid HB.out.size
  obtain ⟨V3, hV3⟩ : ∃ V, V = w3.alloc (.cells (ringC x4 r0) 26) := ⟨_, rfl⟩
  have ha := (Below.refl w3.heap.size w3).alloc (Nat.le_refl _) (.cells (ringC x4 r0) 26)
  have hg := heap_alloc_new w3 (.cells (ringC x4 r0) 26)
  have nHB := Lib.hid (HB.out.alloc HB.out.size (.cells (ringC x4 r0) 26))
  rw [← hV3] at ha hg nHB
  have nRK1 := Lib.hid (RK1.out.go ha)
  have nRG4 := Lib.hid (RG4.out.go ha)
  obtain ⟨g4, hg4⟩ : ∃ g, g = w3.heap.size := ⟨_, rfl⟩
  rw [← hg4] at hg
  have HXG4 := Lib.hid hg4
  have G4 := Lib.hid hg
  have HV := Lib.hid hV3
  clear ha hg hV3 hg4
  clear HB RK1 RG4
  have HB := nHB
  have RK1 := nRK1
  have RG4 := nRG4
  clear nHB nRK1 nRG4
  have LEG4 := Lib.hid (show W.heap.size ≤ g4 from by rw [HXG4.out]; exact LB.out)
  clear LB
  go_upto_region 5 with (refine storeX (.tmp 4) (.tmp 21) _ (ringC x4 r0) _ tyRing rfl (ringC_one _ _) (heap_alloc_new _ _) rfl rfl rfl rfl rfl ?_; rw [setRowG_fold])
  rw [← HV.out]
  (try rw [← HXG4.out])
  clear HV HXG4
  clear RK1 KA CN
  go_wp2_with fail
  go_loopw [6, 7] (fun tv iv wr => ∃ (i : Nat) (t : Int) (r : Rg) (y : Wg), i ≤ n ∧ tv = .int .i64 t ∧ iv = .int .i64 i ∧ Hid (KeepI r t i) ∧ Hid (BxR wr g4 y r) ∧ Hid (RingR wr y r) ∧ Hid (Below W.heap.size W wr)) (fun _ iv _ => n - (intOf iv).toNat)
  case atStart => exact ⟨0, 99, r0, x4, Nat.zero_le _, rfl, rfl, HK, G4, RG4, HB⟩
  case round =>
  clear HK G4 RG4 HB
  obtain ⟨i, t, r, y, hi, rfl, rfl, HK, G4, RG4, HB⟩ := hrel
  by_cases hlt : i < n
  · have hki : (i : Int) < (n : Int) := by omega
    have hk0 : (0 : Int) ≤ (i : Int) := Int.natCast_nonneg _
    have hil : i < l.length := by rw [← HN.out]; exact hlt
    obtain ⟨ab, ao, rfl, hab, hcells⟩ := HST.out (by omega)
    obtain ⟨s0, s1, s2, skd, sno⟩ := hcells i hil
    obtain ⟨S, hS⟩ : ∃ S, S = l[i] := ⟨_, rfl⟩
    rw [← hS] at s0 s1 s2 skd sno
    obtain ⟨kd, no, fl⟩ := S
    simp only at s0 s1 s2 skd sno
    obtain ⟨nb, hnb⟩ : ∃ n, n = fl.toNat := ⟨_, rfl⟩
    rw [← hnb] at s2
    have C0 := Lib.hid (fun w (h : Below W.heap.size W w) => (show w.cell? ⟨ab, ao + i * 3, none⟩ = some (.int .u8 (kd : Nat)) ∧ w.cell? ⟨ab, ao + i * 3 + 1, none⟩ = some (.int .i64 no) ∧ w.cell? ⟨ab, ao + i * 3 + 2, none⟩ = some (.int .u8 (nb : Nat)) from ⟨(h.cell (p := ⟨ab, ao + i * 3, none⟩) hab).trans s0, (h.cell (p := ⟨ab, ao + i * 3 + 1, none⟩) hab).trans s1, (h.cell (p := ⟨ab, ao + i * 3 + 2, none⟩) hab).trans s2⟩))
    have KS := Lib.hid (keep_step HK.out kd no fl)
    have HTU := Lib.hid (show turnedR r kd no fl = (decide (kd % 5 = 2) && (doneR r kd no fl).2) from rfl)
    have HTN := Lib.hid (show tickN r t kd no fl = (if turnedR r kd no fl = true then 0 else t) + (if kd % 5 = 4 then 1 else 0) from rfl)
    obtain ⟨P, hP⟩ : ∃ P, P = doneR r kd no fl := ⟨_, rfl⟩
    rw [← hP] at KS HTU
    obtain ⟨X, ok⟩ := P
    simp only at KS HTU
    have HRR := Lib.hid (show RightR r ∧ r ≠ rg0 ∧ 0 ≤ t ∧ t ≤ 99 + i from ⟨HK.out.1, HK.out.2.1, HK.out.2.2.1, HK.out.2.2.2.1⟩)
    have CD := Lib.hid (fun w h => done_is hP.symm y w HRR.out.1 sno skd h nb hnb)
    generalize turnedR r kd no fl = tu at *
    generalize tickN r t kd no fl = tn at *
    obtain ⟨j, hj⟩ : ∃ j, j = kd % 5 := ⟨_, rfl⟩
    rw [← hj] at HTU HTN
    have hj5 : j < 5 := by omega
    have hj1 : (kd : Int) % 5 = (j : Int) := by omega
    have hj2 : (kd : Int).tmod 5 = (j : Int) := by rw [Int.tmod_eq_emod_of_nonneg (by omega)]; exact hj1
    obtain ⟨t0, t1⟩ := (show 0 ≤ t ∧ t ≤ 99 + i from HRR.out.2.2)
    clear hcells s0 s1 s2 hS hP hj sno hnb HK
    go_upto_region 11 with fail
    have HBS := Lib.hid (fun w (h : Below wr.heap.size wr w) => belG HB.out h HB.out.size)
    go_cut [8, 9] (fun tp te wx => AnsOv wr wx tp te X (.bool ok))
    case first =>
      have BB0 := Lib.hid ((Below.refl wr.heap.size wr).drew)
      have KEEP := Lib.hid (fun w' (hW : Below wr.heap.size wr w') => (show Below wr.heap.size wr w' from hW))
      refine wp_region_noPanic ?_
      refine wp_region_held_drew (S := fun w' => Below wr.heap.size wr w') (by kernel_rfl) (KEEP.out _ BB0.out) (fun hHeld => ?_)
      obtain ⟨wz0, hwz⟩ : ∃ x, x = wr.drew := ⟨_, rfl⟩
      rw [← hwz] at BB0 hHeld ⊢
      clear hwz
      refine wpAnyH_take (i := 0) (oi := ?_) (v := .agg (ringC y r)) ?_ (by kernel_rfl) (by decide +kernel) (by decide +kernel) (fun _ _ _ h => h) ?_ (by assumption) ?_
      rotate_left 1
      focus (simp only [List.getElem?_toArray, List.getElem?_cons_zero] <;> rfl)
      · refine yieldsX (T := 26) ?_ (.tmp 4) ?_ ⟨g4, 0, none⟩ ?_ (ringC y r) ?_
        focus rfl
        focus exact rfl
        focus exact rfl
        exact fun w hSw => run_loadX tyRing rfl (Bx.go G4.out hSw)
      (try simp only [Act.put, List.setIfInBounds_toArray, List.set_cons_zero, List.set_cons_succ])
      refine wpAnyH_take (i := 1) (oi := ?_) (v := ?_) ?_ (by kernel_rfl) (by decide +kernel) (by decide +kernel) (fun _ _ _ h => h) ?_ (by assumption) ?_
      rotate_left 2
      focus (simp only [List.getElem?_toArray, List.getElem?_cons_succ, List.getElem?_cons_zero] <;> rfl)
      · refine Or.inl ⟨by rfl, ?_⟩
        intro w hSw
        (try dsimp only at hSw)
        go_simp <;> with_reducible rfl
      (try simp only [Act.put, List.setIfInBounds_toArray, List.set_cons_zero, List.set_cons_succ])
      refine wpAnyH_take (i := 2) (oi := ?_) (v := ?_) ?_ (by kernel_rfl) (by decide +kernel) (by decide +kernel) (fun _ _ _ h => h) ?_ (by assumption) ?_
      rotate_left 2
      focus (simp only [List.getElem?_toArray, List.getElem?_cons_succ, List.getElem?_cons_zero] <;> rfl)
      · refine Or.inl ⟨by rfl, ?_⟩
        intro w hSw
        (try dsimp only at hSw)
        go_simp <;> with_reducible rfl
      (try simp only [Act.put, List.setIfInBounds_toArray, List.set_cons_zero, List.set_cons_succ])
      refine wpAnyH_take (i := 3) (oi := ?_) (v := ?_) ?_ (by kernel_rfl) (by decide +kernel) (by decide +kernel) (fun _ _ _ h => h) ?_ (by assumption) ?_
      rotate_left 2
      focus (simp only [List.getElem?_toArray, List.getElem?_cons_succ, List.getElem?_cons_zero] <;> rfl)
      · refine Or.inl ⟨by rfl, ?_⟩
        intro w hSw
        (try dsimp only at hSw)
        go_simp <;> with_reducible rfl
      (try simp only [Act.put, List.setIfInBounds_toArray, List.set_cons_zero, List.set_cons_succ])
      refine wpAnyH_take (i := 4) (oi := ?_) (v := ?_) ?_ (by kernel_rfl) (by decide +kernel) (by decide +kernel) (fun _ _ _ h => h) ?_ (by assumption) ?_
      rotate_left 2
      focus (simp only [List.getElem?_toArray, List.getElem?_cons_succ, List.getElem?_cons_zero] <;> rfl)
      · refine Or.inl ⟨by rfl, ?_⟩
        intro w hSw
        obtain ⟨q0, q1, q2⟩ := C0.out w (HBS.out w hSw)
        go_simp <;> with_reducible rfl
      (try simp only [Act.put, List.setIfInBounds_toArray, List.set_cons_zero, List.set_cons_succ])
      refine wpAnyH_ready (rs := [5, 9]) (by decide +kernel) (by simp) ?_
      refine AllReadyH.cons rfl (fun K hK => ?_) ?_
      · go_simp
        go_at_call 30
        refine (CD.out _ (RG4.out.go BB0.out)).mono ?_
        rintro e wz1 ⟨⟨z, rfl, hz⟩, hb⟩
        have BB1 := Lib.hid (belG BB0.out hb BB0.out.size)
        have RZ_1 := Lib.hid hz
        clear hz
        clear hb
        refine hK.out _ _ (KEEP.out _ BB1.out) (fun hHeld => ?_)
        clear hK K
        (try simp only [Act.put, List.setIfInBounds_toArray, List.set_cons_zero, List.set_cons_succ])
        refine wpAnyH_take (i := 6) (oi := ?_) (v := ?_) ?_ (by kernel_rfl) (by decide +kernel) (by decide +kernel) (fun _ _ _ h => h) ?_ (by assumption) ?_
        rotate_left 2
        focus (simp only [List.getElem?_toArray, List.getElem?_cons_succ, List.getElem?_cons_zero] <;> rfl)
        · refine Or.inl ⟨by rfl, ?_⟩
          intro w hSw
          (try dsimp only at hSw)
          go_simp <;> with_reducible rfl
        (try simp only [Act.put, List.setIfInBounds_toArray, List.set_cons_zero, List.set_cons_succ])
        refine wpAnyH_take (i := 7) (oi := ?_) (v := ?_) ?_ (by kernel_rfl) (by decide +kernel) (by decide +kernel) (fun _ _ _ h => h) ?_ (by assumption) ?_
        rotate_left 2
        focus (simp only [List.getElem?_toArray, List.getElem?_cons_succ, List.getElem?_cons_zero] <;> rfl)
        · refine Or.inl ⟨by rfl, ?_⟩
          intro w hSw
          (try dsimp only at hSw)
          go_simp <;> with_reducible rfl
        (try simp only [Act.put, List.setIfInBounds_toArray, List.set_cons_zero, List.set_cons_succ])
        refine wpAnyH_take (i := 8) (oi := ?_) (v := ?_) ?_ (by kernel_rfl) (by decide +kernel) (by decide +kernel) (fun _ _ _ h => h) ?_ (by assumption) ?_
        rotate_left 2
        focus (simp only [List.getElem?_toArray, List.getElem?_cons_succ, List.getElem?_cons_zero] <;> rfl)
        · refine Or.inl ⟨by rfl, ?_⟩
          intro w hSw
          (try dsimp only at hSw)
          go_simp <;> with_reducible rfl
        (try simp only [Act.put, List.setIfInBounds_toArray, List.set_cons_zero, List.set_cons_succ])
        refine wpAnyH_ready (rs := [9]) (by decide +kernel) (by simp) ?_
        refine AllReadyH.cons rfl (fun K hK => ?_) AllReadyH.nil
        go_simp
        obtain ⟨wz2, hwz⟩ : ∃ x, x = wz1.alloc (.cells #[.int .i64 0, .slice none 0 0, .int .i64 0, .slice none 0 0, .int .i64 0, .slice none 0 0, .int .i64 0, .int .i64 0] 26) := ⟨_, rfl⟩
        have hb : Below wz1.heap.size wz1 wz2 := by rw [hwz]; exact (Below.refl wz1.heap.size wz1).alloc (Nat.le_refl _) _
        have hx : Bx wz2 wz1.heap.size 26 (ringC wg0 rg0) := by rw [hwz]; exact Bx.new _ _ _
        have BB2 := Lib.hid (belG BB1.out hb BB1.out.size)
        rw [← hwz]
        obtain ⟨ga2, hga⟩ : ∃ g, g = wz1.heap.size := ⟨_, rfl⟩
        rw [← hga] at hx
        (try rw [← hga])
        have HN_2 := Lib.hid hx
        have LEga2 := Lib.hid (show wr.heap.size ≤ ga2 from by rw [hga]; exact BB1.out.size)
        have RZ_2 := Lib.hid (RZ_1.out.go hb)
        clear hb hx hwz hga
        refine hK.out _ _ (KEEP.out _ BB2.out) (fun hHeld => ?_)
        clear hK K
        (try simp only [Act.put, List.setIfInBounds_toArray, List.set_cons_zero, List.set_cons_succ])
        refine wpAnyH_ready (rs := [10]) (by decide +kernel) (by simp) ?_
        refine AllReadyH.cons rfl (fun K hK => ?_) AllReadyH.nil
        rw [if_pos (by rfl)]
        refine wp_storeX (.tmp 8) (.tmp 38) ga2 (ringC z X) _ tyRing rfl (ringC_one _ _) HN_2.out rfl rfl rfl rfl ?_
        (try simp only [Act.put, List.setIfInBounds_toArray])
        obtain ⟨wz3, hwz⟩ : ∃ x, x = wz2.setRow ga2 (ringC z X) := ⟨_, rfl⟩
        have BB3 := Lib.hid (show Below wr.heap.size wr wz3 from by rw [hwz]; exact Below.setRowG BB2.out LEga2.out _)
        have HN_3 := Lib.hid (show Bx wz3 ga2 _ (ringC z X) from by rw [hwz]; exact Bx.setRow HN_2.out _)
        have hq := RZ_2.out.setRow (C' := (ringC z X)) HN_2.out (no8_ring _ _)
        rw [← hwz] at hq
        have RZ_3 := Lib.hid hq
        clear hq
        rw [← hwz]
        clear hwz
        refine hK.out _ _ (KEEP.out _ BB3.out) (fun hHeld => ?_)
        clear hK K
        (try simp only [Act.put, List.setIfInBounds_toArray, List.set_cons_zero, List.set_cons_succ])
        refine wpAnyH_take (i := 11) (oi := ?_) (v := ?_) ?_ (by kernel_rfl) (by decide +kernel) (by decide +kernel) (fun _ _ _ h => h) ?_ (by assumption) ?_
        rotate_left 2
        focus (simp only [List.getElem?_toArray, List.getElem?_cons_succ, List.getElem?_cons_zero] <;> rfl)
        · refine Or.inl ⟨by rfl, ?_⟩
          intro w hSw
          (try dsimp only at hSw)
          go_simp <;> with_reducible rfl
        (try simp only [Act.put])
        refine wpAnyH_done (by decide +kernel) ?_ _
        refine NoPanic.normal ?_
        clear KEEP
        go_wp2_with fail
        go_meet
        case rel => exact ⟨rfl, ga2, z, rfl, HN_3.out, RZ_3.out, BB3.out, LEga2.out⟩
      refine AllReadyH.cons rfl (fun K hK => ?_) AllReadyH.nil
      go_simp
      obtain ⟨wz4, hwz⟩ : ∃ x, x = wz0.alloc (.cells #[.int .i64 0, .slice none 0 0, .int .i64 0, .slice none 0 0, .int .i64 0, .slice none 0 0, .int .i64 0, .int .i64 0] 26) := ⟨_, rfl⟩
      have hb : Below wz0.heap.size wz0 wz4 := by rw [hwz]; exact (Below.refl wz0.heap.size wz0).alloc (Nat.le_refl _) _
      have hx : Bx wz4 wz0.heap.size 26 (ringC wg0 rg0) := by rw [hwz]; exact Bx.new _ _ _
      have BB4 := Lib.hid (belG BB0.out hb BB0.out.size)
      rw [← hwz]
      obtain ⟨ga4, hga⟩ : ∃ g, g = wz0.heap.size := ⟨_, rfl⟩
      rw [← hga] at hx
      (try rw [← hga])
      have HN_4 := Lib.hid hx
      have LEga4 := Lib.hid (show wr.heap.size ≤ ga4 from by rw [hga]; exact BB0.out.size)
      clear hb hx hwz hga
      refine hK.out _ _ (KEEP.out _ BB4.out) (fun hHeld => ?_)
      clear hK K
      (try simp only [Act.put, List.setIfInBounds_toArray, List.set_cons_zero, List.set_cons_succ])
      refine wpAnyH_ready (rs := [5]) (by decide +kernel) (by simp) ?_
      refine AllReadyH.cons rfl (fun K hK => ?_) AllReadyH.nil
      go_simp
      go_at_call 30
      refine (CD.out _ (RG4.out.go BB4.out)).mono ?_
      rintro e wz5 ⟨⟨z, rfl, hz⟩, hb⟩
      have BB5 := Lib.hid (belG BB4.out hb BB4.out.size)
      have HN_5 := Lib.hid (Bx.go HN_4.out hb)
      have RZ_5 := Lib.hid hz
      clear hz
      clear hb
      refine hK.out _ _ (KEEP.out _ BB5.out) (fun hHeld => ?_)
      clear hK K
      (try simp only [Act.put, List.setIfInBounds_toArray, List.set_cons_zero, List.set_cons_succ])
      refine wpAnyH_take (i := 6) (oi := ?_) (v := ?_) ?_ (by kernel_rfl) (by decide +kernel) (by decide +kernel) (fun _ _ _ h => h) ?_ (by assumption) ?_
      rotate_left 2
      focus (simp only [List.getElem?_toArray, List.getElem?_cons_succ, List.getElem?_cons_zero] <;> rfl)
      · refine Or.inl ⟨by rfl, ?_⟩
        intro w hSw
        (try dsimp only at hSw)
        go_simp <;> with_reducible rfl
      (try simp only [Act.put, List.setIfInBounds_toArray, List.set_cons_zero, List.set_cons_succ])
      refine wpAnyH_take (i := 7) (oi := ?_) (v := ?_) ?_ (by kernel_rfl) (by decide +kernel) (by decide +kernel) (fun _ _ _ h => h) ?_ (by assumption) ?_
      rotate_left 2
      focus (simp only [List.getElem?_toArray, List.getElem?_cons_succ, List.getElem?_cons_zero] <;> rfl)
      · refine Or.inl ⟨by rfl, ?_⟩
        intro w hSw
        (try dsimp only at hSw)
        go_simp <;> with_reducible rfl
      (try simp only [Act.put, List.setIfInBounds_toArray, List.set_cons_zero, List.set_cons_succ])
      refine wpAnyH_take (i := 8) (oi := ?_) (v := ?_) ?_ (by kernel_rfl) (by decide +kernel) (by decide +kernel) (fun _ _ _ h => h) ?_ (by assumption) ?_
      rotate_left 2
      focus (simp only [List.getElem?_toArray, List.getElem?_cons_succ, List.getElem?_cons_zero] <;> rfl)
      · refine Or.inl ⟨by rfl, ?_⟩
        intro w hSw
        (try dsimp only at hSw)
        go_simp <;> with_reducible rfl
      (try simp only [Act.put, List.setIfInBounds_toArray, List.set_cons_zero, List.set_cons_succ])
      refine wpAnyH_ready (rs := [10]) (by decide +kernel) (by simp) ?_
      refine AllReadyH.cons rfl (fun K hK => ?_) AllReadyH.nil
      rw [if_pos (by rfl)]
      refine wp_storeX (.tmp 8) (.tmp 38) ga4 (ringC z X) _ tyRing rfl (ringC_one _ _) HN_5.out rfl rfl rfl rfl ?_
      (try simp only [Act.put, List.setIfInBounds_toArray])
      obtain ⟨wz6, hwz⟩ : ∃ x, x = wz5.setRow ga4 (ringC z X) := ⟨_, rfl⟩
      have BB6 := Lib.hid (show Below wr.heap.size wr wz6 from by rw [hwz]; exact Below.setRowG BB5.out LEga4.out _)
      have HN_6 := Lib.hid (show Bx wz6 ga4 _ (ringC z X) from by rw [hwz]; exact Bx.setRow HN_5.out _)
      have hq := RZ_5.out.setRow (C' := (ringC z X)) HN_5.out (no8_ring _ _)
      rw [← hwz] at hq
      have RZ_6 := Lib.hid hq
      clear hq
      rw [← hwz]
      clear hwz
      refine hK.out _ _ (KEEP.out _ BB6.out) (fun hHeld => ?_)
      clear hK K
      (try simp only [Act.put, List.setIfInBounds_toArray, List.set_cons_zero, List.set_cons_succ])
      refine wpAnyH_take (i := 11) (oi := ?_) (v := ?_) ?_ (by kernel_rfl) (by decide +kernel) (by decide +kernel) (fun _ _ _ h => h) ?_ (by assumption) ?_
      rotate_left 2
      focus (simp only [List.getElem?_toArray, List.getElem?_cons_succ, List.getElem?_cons_zero] <;> rfl)
      · refine Or.inl ⟨by rfl, ?_⟩
        intro w hSw
        (try dsimp only at hSw)
        go_simp <;> with_reducible rfl
      (try simp only [Act.put])
      refine wpAnyH_done (by decide +kernel) ?_ _
      refine NoPanic.normal ?_
      clear KEEP
      go_wp2_with fail
      go_meet
      case rel => exact ⟨rfl, ga4, z, rfl, HN_6.out, RZ_6.out, BB6.out, LEga4.out⟩
    case rest =>
    obtain ⟨rfl, g8, z4, rfl, hg, hr, hb, hge⟩ := hcut
    obtain ⟨w4, hw⟩ : ∃ x, x = wc := ⟨_, rfl⟩
    rw [← hw] at hg hr hb ⊢
    clear hw
    have nHB := Lib.hid (belG HB.out hb HB.out.size)
    have NEG4G8 := Lib.hid (show g4 ≠ g8 from by have h1 := Bx.lt G4.out; omega)
    have NEG8G4 := Lib.hid (NEG4G8.out.symm)
    have LEG8 := Lib.hid (show W.heap.size ≤ g8 from by have h1 := HB.out.size; omega)
    have nRG4 := Lib.hid (RG4.out.go hb)
    have nG4 := Lib.hid (Bx.go G4.out hb)
    have G8 := Lib.hid hg
    have RG8 := Lib.hid hr
    clear hb hg hr hge
    clear HB RG4 G4
    have HB := nHB
    have RG4 := nRG4
    have G4 := nG4
    clear nHB nRG4 nG4
    clear HBS CD
    obtain ⟨k1, k2, k3, k4, k5, k6, k7, k8, k9⟩ := KS.out
    have HX64 := Lib.hid (right_64 k1)
    have CF := Lib.hid (fun w h => rFind_any z4 X X.cur.no w k1 HX64.out h HX64.out.1)
    rw [k3] at CF
    unfold AnsFi at CF
    have CR := Lib.hid (fun w => (show Calls Try.prog 12 #[.agg (ringC z4 X)] w fun e W' => e = .returned (.bool true) ∧ Below w.heap.size w W' from by have h := right11_any z4 X w; rw [decide_eq_true k1] at h; exact h))
    have CS := Lib.hid (fun w (h : RingR w z4 X) (h2 : RingR w y r) => (show ok = false → Calls Try.prog 13 #[.agg (ringC z4 X), .agg (ringC y r)] w fun e W' => e = .returned (.bool true) ∧ Below w.heap.size w W' from fun hok => by have h3 := same11_any z4 y X r w h h2; rw [decide_eq_true (k2 hok)] at h3; exact h3))
    have CK := Lib.hid (fun (q : Wk) w (h : KeyR w q X.cur.key) (h2 : RingR w z4 X) => (show Calls Try.prog 20 #[.slice q.1 X.cur.key.length q.2, .slice z4.cur.1 X.cur.key.length z4.cur.2] w fun e W' => e = .returned (.bool true) ∧ w = W' from (same_any q.1 z4.cur.1 X.cur.key X.cur.key q.2 z4.cur.2 _ _ w h.2.2 h2.1.2.2).mono fun _ _ h => ⟨h.1.trans (by simp), h.2⟩))
    have CO := Lib.hid (fun w (h : RingR w z4 X) (h2 : RingR w y r) => (show tu = true → Calls Try.prog 20 #[.slice z4.old.1 X.old.key.length z4.old.2, .slice y.cur.1 r.cur.key.length y.cur.2] w fun e W' => e = .returned (.bool true) ∧ w = W' from fun ht => (same_any z4.old.1 y.cur.1 X.old.key r.cur.key z4.old.2 y.cur.2 _ _ w h.2.1.2.2 h2.1.2.2).mono fun _ _ h => ⟨h.1.trans (by rw [(k7 ht).2]; simp), h.2⟩))
    have HC8 := Lib.hid (show (ringC z4 X)[0]? = some (.int .i64 X.cur.no) ∧ (ringC z4 X)[1]? = some (.slice z4.cur.1 X.cur.key.length z4.cur.2) ∧ (ringC z4 X)[2]? = some (.int .i64 X.old.no) ∧ (ringC z4 X)[3]? = some (.slice z4.old.1 X.old.key.length z4.old.2) ∧ (ringC z4 X)[7]? = some (.int .i64 X.top) from ⟨rfl, rfl, rfl, rfl, rfl⟩)
    have HC4 := Lib.hid (show (ringC y r)[0]? = some (.int .i64 r.cur.no) ∧ (ringC y r)[1]? = some (.slice y.cur.1 r.cur.key.length y.cur.2) ∧ (ringC y r)[4]? = some (.int .i64 r.pend.no) ∧ (ringC y r)[7]? = some (.int .i64 r.top) from ⟨rfl, rfl, rfl, rfl⟩)
    have HTQ := Lib.hid (show tu = true → X.cur.no = r.pend.no ∧ X.old.no = r.cur.no from fun h => ⟨(k7 h).1, by rw [(k7 h).2]⟩)
    have HNX := Lib.hid k9
    obtain ⟨ck, hck⟩ : ∃ n, n = X.cur.key.length := ⟨_, rfl⟩
    obtain ⟨ok1, hok1⟩ : ∃ n, n = X.old.key.length := ⟨_, rfl⟩
    obtain ⟨rk, hrk⟩ : ∃ n, n = r.cur.key.length := ⟨_, rfl⟩
    simp only at CF
    rw [← hck] at CF CK HC8
    rw [← hok1] at CO HC8
    rw [← hrk] at CO HC4
    obtain ⟨cx, hcx⟩ : ∃ n, n = X.cur.no := ⟨_, rfl⟩
    obtain ⟨xo, hxo⟩ : ∃ n, n = X.old.no := ⟨_, rfl⟩
    obtain ⟨xt, hxt⟩ : ∃ n, n = X.top := ⟨_, rfl⟩
    obtain ⟨cr, hcr⟩ : ∃ n, n = r.cur.no := ⟨_, rfl⟩
    obtain ⟨rp, hrp⟩ : ∃ n, n = r.pend.no := ⟨_, rfl⟩
    obtain ⟨rt, hrt⟩ : ∃ n, n = r.top := ⟨_, rfl⟩
    rw [← hcx] at CF HC8 HTQ k4 k6
    rw [← hxo] at HC8 HTQ k8
    rw [← hxt] at HC8 k5
    rw [← hcr] at HC4 HTQ k4 k6
    rw [← hrp] at HC4 HTQ
    rw [← hrt] at HC4 k5
    have HK6 := Lib.hid k6
    have HK8 := Lib.hid k8
    have n1 : ¬ cx < cr := by omega
    have n2 : ¬ xt < rt := by omega
    clear k1 k2 k3 k4 k5 k6 k7 k8 k9 KS hck hok1 hrk hcx hxo hxt hcr hrp hrt
    have c80 := Bx.cell G8.out HC8.out.1
    go_wp2_with (refine loadX (.tmp 8) g8 (ringC z4 X) tyRing rfl G8.out rfl rfl rfl ?_)
    refine (CF.out _ RG8.out).mono ?_
    rintro e w5 ⟨⟨q, rfl, hk⟩, hb⟩
    have nHB := Lib.hid (belG HB.out hb HB.out.size)
    have nRG4 := Lib.hid (RG4.out.go hb)
    have nRG8 := Lib.hid (RG8.out.go hb)
    have nG4 := Lib.hid (Bx.go G4.out hb)
    have nG8 := Lib.hid (Bx.go G8.out hb)
    clear hb
    clear HB RG4 RG8 G4 G8
    have HB := nHB
    have RG4 := nRG4
    have RG8 := nRG8
    have G4 := nG4
    have G8 := nG8
    clear nHB nRG4 nRG8 nG4 nG8
    have RQ := Lib.hid hk
    clear hk c80
    go_wp2_with (refine loadX (.tmp 8) g8 (ringC z4 X) tyRing rfl G8.out rfl rfl rfl ?_)
    refine (CR.out _).mono ?_
    rintro e w6 ⟨rfl, hb⟩
    have nHB := Lib.hid (belG HB.out hb HB.out.size)
    have nRG4 := Lib.hid (RG4.out.go hb)
    have nRG8 := Lib.hid (RG8.out.go hb)
    have nRQ := Lib.hid (RQ.out.go hb)
    have nG4 := Lib.hid (Bx.go G4.out hb)
    have nG8 := Lib.hid (Bx.go G8.out hb)
    clear hb
    clear HB RG4 RG8 RQ G4 G8
    have HB := nHB
    have RG4 := nRG4
    have RG8 := nRG8
    have RQ := nRQ
    have G4 := nG4
    have G8 := nG8
    clear nHB nRG4 nRG8 nRQ nG4 nG8
    by_cases hj : j = 2
    · cases ok with
      | true =>
        have HTU1 := HTU.out
        have HTN1 := HTN.out
        subst hj
        obtain rfl : tu = true := HTU1.trans (by rfl)
        have htn : tn = 0 := HTN1.trans (by simp)
        have HK6L := HK6.out
        clear HTU1 HTN1 HTU HTN
        have hcc : decide (cr < cx) = true := HK6L.symm
        have hci : cr < cx := of_decide_eq_true hcc
        clear HK6 HK6L
        have c80 := Bx.cell G8.out HC8.out.1
        have c40 := Bx.cell G4.out HC4.out.1
        have c87 := Bx.cell G8.out HC8.out.2.2.2.2
        have c47 := Bx.cell G4.out HC4.out.2.2.2
        have c81 := Bx.cell G8.out HC8.out.2.1
        go_wp2_with fail
        refine (CK.out q _ RQ.out RG8.out).mono ?_
        rintro e w7 ⟨rfl, rfl⟩
        obtain ⟨q0, -, -⟩ := C0.out _ HB.out
        obtain ⟨e1, e2⟩ := HTQ.out (by first | rfl | trivial)
        have hn1 : (cx != rp) = false := by rw [e1]; simp
        have hn2 : (xo != cr) = false := by rw [e2]; simp
        clear e1 e2
        have c82 := Bx.cell G8.out HC8.out.2.2.1
        have c44 := Bx.cell G4.out HC4.out.2.2.1
        have c83 := Bx.cell G8.out HC8.out.2.2.2.1
        have c41 := Bx.cell G4.out HC4.out.2.1
        go_wp2_with fail
        refine (CO.out _ RG8.out RG4.out (by first | rfl | trivial)).mono ?_
        rintro e w8 ⟨rfl, rfl⟩
        go_upto_region 22 with fail
        have HK8L := HK8.out
        replace htn := htn.symm
        subst htn
        have hxo : 0 < xo := of_decide_eq_true (HK8L.trans (by decide))
        clear HK8L
        go_upto_region 24 with fail
        go_upto_region 10 with (first | (refine loadX (.tmp 8) g8 (ringC z4 X) tyRing rfl G8.out rfl rfl rfl ?_) | (refine storeX (.tmp 4) (.tmp 156) g4 (ringC z4 X) _ tyRing rfl (ringC_one _ _) G4.out rfl rfl rfl rfl rfl ?_))
        obtain ⟨V9, hV9⟩ : ∃ V, V = w6.setRow g4 (ringC z4 X) := ⟨_, rfl⟩
        have nHB := Lib.hid (show Below W.heap.size W V9 by rw [hV9]; exact Below.setRowG HB.out LEG4.out _)
        have hq := RG4.out.setRow (C' := (ringC z4 X)) G4.out (no8_ring _ _)
        rw [← hV9] at hq
        have nRG4 := Lib.hid hq
        clear hq
        have hq := RG8.out.setRow (C' := (ringC z4 X)) G4.out (no8_ring _ _)
        rw [← hV9] at hq
        have nRG8 := Lib.hid hq
        clear hq
        have hq := RQ.out.setRow (C' := (ringC z4 X)) G4.out (no8_ring _ _)
        rw [← hV9] at hq
        have nRQ := Lib.hid hq
        clear hq
        have nG4 := Lib.hid (show Bx V9 g4 26 (ringC z4 X) from by rw [hV9]; exact Bx.setRow G4.out _)
        have nG8 := Lib.hid (show Bx V9 g8 26 (ringC z4 X) from by rw [hV9]; exact Bx.setRowOther G8.out NEG8G4.out _)
        rw [← hV9]
        clear hV9
        clear HB RG4 RG8 RQ G4 G8
        have HB := nHB
        have RG4 := nRG4
        have RG8 := nRG8
        have RQ := nRQ
        have G4 := nG4
        have G8 := nG8
        clear nHB nRG4 nRG8 nRQ nG4 nG8
        go_wp2_with fail
        go_roundw
        case rel => exact ⟨i + 1, 0, X, z4, by omega, rfl, by go_num, HNX, G4, RG8, HB⟩
        case measure => simp [intOf]; omega
      | false =>
        have HTU1 := HTU.out
        have HTN1 := HTN.out
        subst hj
        obtain rfl : tu = false := HTU1.trans (by rfl)
        have htn : tn = t := HTN1.trans (by simp)
        have HK6L := HK6.out
        clear HTU1 HTN1 HTU HTN
        have hcc : decide (cr < cx) = false := HK6L.symm
        have hci : ¬ cr < cx := of_decide_eq_false hcc
        clear HK6 HK6L
        have c80 := Bx.cell G8.out HC8.out.1
        have c40 := Bx.cell G4.out HC4.out.1
        have c87 := Bx.cell G8.out HC8.out.2.2.2.2
        have c47 := Bx.cell G4.out HC4.out.2.2.2
        have c81 := Bx.cell G8.out HC8.out.2.1
        go_wp2_with (first | (refine loadX (.tmp 8) g8 (ringC z4 X) tyRing rfl G8.out rfl rfl rfl ?_) | (refine loadX (.tmp 4) g4 (ringC y r) tyRing rfl G4.out rfl rfl rfl ?_))
        clear c80 c40 c87 c47 c81
        refine (CS.out _ RG8.out RG4.out (by first | rfl | trivial)).mono ?_
        rintro e w7 ⟨rfl, hb⟩
        have nHB := Lib.hid (belG HB.out hb HB.out.size)
        have nRG4 := Lib.hid (RG4.out.go hb)
        have nRG8 := Lib.hid (RG8.out.go hb)
        have nRQ := Lib.hid (RQ.out.go hb)
        have nG4 := Lib.hid (Bx.go G4.out hb)
        have nG8 := Lib.hid (Bx.go G8.out hb)
        clear hb
        clear HB RG4 RG8 RQ G4 G8
        have HB := nHB
        have RG4 := nRG4
        have RG8 := nRG8
        have RQ := nRQ
        have G4 := nG4
        have G8 := nG8
        clear nHB nRG4 nRG8 nRQ nG4 nG8
        have c80 := Bx.cell G8.out HC8.out.1
        have c40 := Bx.cell G4.out HC4.out.1
        have c87 := Bx.cell G8.out HC8.out.2.2.2.2
        have c47 := Bx.cell G4.out HC4.out.2.2.2
        have c81 := Bx.cell G8.out HC8.out.2.1
        go_wp2_with fail
        refine (CK.out q _ RQ.out RG8.out).mono ?_
        rintro e w8 ⟨rfl, rfl⟩
        obtain ⟨q0, -, -⟩ := C0.out _ HB.out
        have c82 := Bx.cell G8.out HC8.out.2.2.1
        go_upto_region 22 with fail
        have HK8L := HK8.out
        replace htn := htn.symm
        subst htn
        by_cases h16 : (t : Int) < 16
        · rw [decide_eq_true h16] at HK8L
          have hxo : 0 < xo := of_decide_eq_true HK8L
          clear HK8L
          go_upto_region 24 with fail
          go_upto_region 10 with (first | (refine loadX (.tmp 8) g8 (ringC z4 X) tyRing rfl G8.out rfl rfl rfl ?_) | (refine storeX (.tmp 4) (.tmp 156) g4 (ringC z4 X) _ tyRing rfl (ringC_one _ _) G4.out rfl rfl rfl rfl rfl ?_))
          obtain ⟨V9, hV9⟩ : ∃ V, V = w7.setRow g4 (ringC z4 X) := ⟨_, rfl⟩
          have nHB := Lib.hid (show Below W.heap.size W V9 by rw [hV9]; exact Below.setRowG HB.out LEG4.out _)
          have hq := RG4.out.setRow (C' := (ringC z4 X)) G4.out (no8_ring _ _)
          rw [← hV9] at hq
          have nRG4 := Lib.hid hq
          clear hq
          have hq := RG8.out.setRow (C' := (ringC z4 X)) G4.out (no8_ring _ _)
          rw [← hV9] at hq
          have nRG8 := Lib.hid hq
          clear hq
          have hq := RQ.out.setRow (C' := (ringC z4 X)) G4.out (no8_ring _ _)
          rw [← hV9] at hq
          have nRQ := Lib.hid hq
          clear hq
          have nG4 := Lib.hid (show Bx V9 g4 26 (ringC z4 X) from by rw [hV9]; exact Bx.setRow G4.out _)
          have nG8 := Lib.hid (show Bx V9 g8 26 (ringC z4 X) from by rw [hV9]; exact Bx.setRowOther G8.out NEG8G4.out _)
          rw [← hV9]
          clear hV9
          clear HB RG4 RG8 RQ G4 G8
          have HB := nHB
          have RG4 := nRG4
          have RG8 := nRG8
          have RQ := nRQ
          have G4 := nG4
          have G8 := nG8
          clear nHB nRG4 nRG8 nRQ nG4 nG8
          go_wp2_with fail
          go_roundw
          case rel => exact ⟨i + 1, t, X, z4, by omega, rfl, by go_num, HNX, G4, RG8, HB⟩
          case measure => simp [intOf]; omega
        · rw [decide_eq_false h16] at HK8L
          have hxo : ¬ 0 < xo := of_decide_eq_false HK8L
          clear HK8L
          go_upto_region 24 with fail
          go_upto_region 10 with (first | (refine loadX (.tmp 8) g8 (ringC z4 X) tyRing rfl G8.out rfl rfl rfl ?_) | (refine storeX (.tmp 4) (.tmp 156) g4 (ringC z4 X) _ tyRing rfl (ringC_one _ _) G4.out rfl rfl rfl rfl rfl ?_))
          obtain ⟨V9, hV9⟩ : ∃ V, V = w7.setRow g4 (ringC z4 X) := ⟨_, rfl⟩
          have nHB := Lib.hid (show Below W.heap.size W V9 by rw [hV9]; exact Below.setRowG HB.out LEG4.out _)
          have hq := RG4.out.setRow (C' := (ringC z4 X)) G4.out (no8_ring _ _)
          rw [← hV9] at hq
          have nRG4 := Lib.hid hq
          clear hq
          have hq := RG8.out.setRow (C' := (ringC z4 X)) G4.out (no8_ring _ _)
          rw [← hV9] at hq
          have nRG8 := Lib.hid hq
          clear hq
          have hq := RQ.out.setRow (C' := (ringC z4 X)) G4.out (no8_ring _ _)
          rw [← hV9] at hq
          have nRQ := Lib.hid hq
          clear hq
          have nG4 := Lib.hid (show Bx V9 g4 26 (ringC z4 X) from by rw [hV9]; exact Bx.setRow G4.out _)
          have nG8 := Lib.hid (show Bx V9 g8 26 (ringC z4 X) from by rw [hV9]; exact Bx.setRowOther G8.out NEG8G4.out _)
          rw [← hV9]
          clear hV9
          clear HB RG4 RG8 RQ G4 G8
          have HB := nHB
          have RG4 := nRG4
          have RG8 := nRG8
          have RQ := nRQ
          have G4 := nG4
          have G8 := nG8
          clear nHB nRG4 nRG8 nRQ nG4 nG8
          go_wp2_with fail
          go_roundw
          case rel => exact ⟨i + 1, t, X, z4, by omega, rfl, by go_num, HNX, G4, RG8, HB⟩
          case measure => simp [intOf]; omega
    · by_cases hj4 : j = 4
      · clear hj
        have hj := hj4
        clear hj4
        cases ok with
        | true =>
          have HTU1 := HTU.out
          have HTN1 := HTN.out
          subst hj
          obtain rfl : tu = false := HTU1.trans (by rfl)
          have htn : tn = t + 1 := HTN1.trans (by simp)
          have HK6L := HK6.out
          clear HTU1 HTN1 HTU HTN
          have hcc : decide (cr < cx) = false := HK6L.symm
          have hci : ¬ cr < cx := of_decide_eq_false hcc
          clear HK6 HK6L
          have c80 := Bx.cell G8.out HC8.out.1
          have c40 := Bx.cell G4.out HC4.out.1
          have c87 := Bx.cell G8.out HC8.out.2.2.2.2
          have c47 := Bx.cell G4.out HC4.out.2.2.2
          have c81 := Bx.cell G8.out HC8.out.2.1
          go_wp2_with fail
          refine (CK.out q _ RQ.out RG8.out).mono ?_
          rintro e w7 ⟨rfl, rfl⟩
          obtain ⟨q0, -, -⟩ := C0.out _ HB.out
          have c82 := Bx.cell G8.out HC8.out.2.2.1
          go_upto_region 22 with fail
          have HK8L := HK8.out
          replace htn := htn.symm
          subst htn
          by_cases h16 : (t + 1 : Int) < 16
          · rw [decide_eq_true h16] at HK8L
            have hxo : 0 < xo := of_decide_eq_true HK8L
            clear HK8L
            have htw : IntKind.i64.wrap (t + 1) = t + 1 := by rw [IntKind.wrap_i64]; omega
            go_upto_region 24 with fail
            go_upto_region 10 with (first | (refine loadX (.tmp 8) g8 (ringC z4 X) tyRing rfl G8.out rfl rfl rfl ?_) | (refine storeX (.tmp 4) (.tmp 156) g4 (ringC z4 X) _ tyRing rfl (ringC_one _ _) G4.out rfl rfl rfl rfl rfl ?_))
            obtain ⟨V8, hV8⟩ : ∃ V, V = w6.setRow g4 (ringC z4 X) := ⟨_, rfl⟩
            have nHB := Lib.hid (show Below W.heap.size W V8 by rw [hV8]; exact Below.setRowG HB.out LEG4.out _)
            have hq := RG4.out.setRow (C' := (ringC z4 X)) G4.out (no8_ring _ _)
            rw [← hV8] at hq
            have nRG4 := Lib.hid hq
            clear hq
            have hq := RG8.out.setRow (C' := (ringC z4 X)) G4.out (no8_ring _ _)
            rw [← hV8] at hq
            have nRG8 := Lib.hid hq
            clear hq
            have hq := RQ.out.setRow (C' := (ringC z4 X)) G4.out (no8_ring _ _)
            rw [← hV8] at hq
            have nRQ := Lib.hid hq
            clear hq
            have nG4 := Lib.hid (show Bx V8 g4 26 (ringC z4 X) from by rw [hV8]; exact Bx.setRow G4.out _)
            have nG8 := Lib.hid (show Bx V8 g8 26 (ringC z4 X) from by rw [hV8]; exact Bx.setRowOther G8.out NEG8G4.out _)
            rw [← hV8]
            clear hV8
            clear HB RG4 RG8 RQ G4 G8
            have HB := nHB
            have RG4 := nRG4
            have RG8 := nRG8
            have RQ := nRQ
            have G4 := nG4
            have G8 := nG8
            clear nHB nRG4 nRG8 nRQ nG4 nG8
            go_wp2_with fail
            go_roundw
            case rel => exact ⟨i + 1, t + 1, X, z4, by omega, rfl, by go_num, HNX, G4, RG8, HB⟩
            case measure => simp [intOf]; omega
          · rw [decide_eq_false h16] at HK8L
            have hxo : ¬ 0 < xo := of_decide_eq_false HK8L
            clear HK8L
            have htw : IntKind.i64.wrap (t + 1) = t + 1 := by rw [IntKind.wrap_i64]; omega
            go_upto_region 24 with fail
            go_upto_region 10 with (first | (refine loadX (.tmp 8) g8 (ringC z4 X) tyRing rfl G8.out rfl rfl rfl ?_) | (refine storeX (.tmp 4) (.tmp 156) g4 (ringC z4 X) _ tyRing rfl (ringC_one _ _) G4.out rfl rfl rfl rfl rfl ?_))
            obtain ⟨V8, hV8⟩ : ∃ V, V = w6.setRow g4 (ringC z4 X) := ⟨_, rfl⟩
            have nHB := Lib.hid (show Below W.heap.size W V8 by rw [hV8]; exact Below.setRowG HB.out LEG4.out _)
            have hq := RG4.out.setRow (C' := (ringC z4 X)) G4.out (no8_ring _ _)
            rw [← hV8] at hq
            have nRG4 := Lib.hid hq
            clear hq
            have hq := RG8.out.setRow (C' := (ringC z4 X)) G4.out (no8_ring _ _)
            rw [← hV8] at hq
            have nRG8 := Lib.hid hq
            clear hq
            have hq := RQ.out.setRow (C' := (ringC z4 X)) G4.out (no8_ring _ _)
            rw [← hV8] at hq
            have nRQ := Lib.hid hq
            clear hq
            have nG4 := Lib.hid (show Bx V8 g4 26 (ringC z4 X) from by rw [hV8]; exact Bx.setRow G4.out _)
            have nG8 := Lib.hid (show Bx V8 g8 26 (ringC z4 X) from by rw [hV8]; exact Bx.setRowOther G8.out NEG8G4.out _)
            rw [← hV8]
            clear hV8
            clear HB RG4 RG8 RQ G4 G8
            have HB := nHB
            have RG4 := nRG4
            have RG8 := nRG8
            have RQ := nRQ
            have G4 := nG4
            have G8 := nG8
            clear nHB nRG4 nRG8 nRQ nG4 nG8
            go_wp2_with fail
            go_roundw
            case rel => exact ⟨i + 1, t + 1, X, z4, by omega, rfl, by go_num, HNX, G4, RG8, HB⟩
            case measure => simp [intOf]; omega
        | false =>
          have HTU1 := HTU.out
          have HTN1 := HTN.out
          subst hj
          obtain rfl : tu = false := HTU1.trans (by rfl)
          have htn : tn = t + 1 := HTN1.trans (by simp)
          have HK6L := HK6.out
          clear HTU1 HTN1 HTU HTN
          have hcc : decide (cr < cx) = false := HK6L.symm
          have hci : ¬ cr < cx := of_decide_eq_false hcc
          clear HK6 HK6L
          have c80 := Bx.cell G8.out HC8.out.1
          have c40 := Bx.cell G4.out HC4.out.1
          have c87 := Bx.cell G8.out HC8.out.2.2.2.2
          have c47 := Bx.cell G4.out HC4.out.2.2.2
          have c81 := Bx.cell G8.out HC8.out.2.1
          go_wp2_with (first | (refine loadX (.tmp 8) g8 (ringC z4 X) tyRing rfl G8.out rfl rfl rfl ?_) | (refine loadX (.tmp 4) g4 (ringC y r) tyRing rfl G4.out rfl rfl rfl ?_))
          clear c80 c40 c87 c47 c81
          refine (CS.out _ RG8.out RG4.out (by first | rfl | trivial)).mono ?_
          rintro e w7 ⟨rfl, hb⟩
          have nHB := Lib.hid (belG HB.out hb HB.out.size)
          have nRG4 := Lib.hid (RG4.out.go hb)
          have nRG8 := Lib.hid (RG8.out.go hb)
          have nRQ := Lib.hid (RQ.out.go hb)
          have nG4 := Lib.hid (Bx.go G4.out hb)
          have nG8 := Lib.hid (Bx.go G8.out hb)
          clear hb
          clear HB RG4 RG8 RQ G4 G8
          have HB := nHB
          have RG4 := nRG4
          have RG8 := nRG8
          have RQ := nRQ
          have G4 := nG4
          have G8 := nG8
          clear nHB nRG4 nRG8 nRQ nG4 nG8
          have c80 := Bx.cell G8.out HC8.out.1
          have c40 := Bx.cell G4.out HC4.out.1
          have c87 := Bx.cell G8.out HC8.out.2.2.2.2
          have c47 := Bx.cell G4.out HC4.out.2.2.2
          have c81 := Bx.cell G8.out HC8.out.2.1
          go_wp2_with fail
          refine (CK.out q _ RQ.out RG8.out).mono ?_
          rintro e w8 ⟨rfl, rfl⟩
          obtain ⟨q0, -, -⟩ := C0.out _ HB.out
          have c82 := Bx.cell G8.out HC8.out.2.2.1
          go_upto_region 22 with fail
          have HK8L := HK8.out
          replace htn := htn.symm
          subst htn
          by_cases h16 : (t + 1 : Int) < 16
          · rw [decide_eq_true h16] at HK8L
            have hxo : 0 < xo := of_decide_eq_true HK8L
            clear HK8L
            have htw : IntKind.i64.wrap (t + 1) = t + 1 := by rw [IntKind.wrap_i64]; omega
            go_upto_region 24 with fail
            go_upto_region 10 with (first | (refine loadX (.tmp 8) g8 (ringC z4 X) tyRing rfl G8.out rfl rfl rfl ?_) | (refine storeX (.tmp 4) (.tmp 156) g4 (ringC z4 X) _ tyRing rfl (ringC_one _ _) G4.out rfl rfl rfl rfl rfl ?_))
            obtain ⟨V9, hV9⟩ : ∃ V, V = w7.setRow g4 (ringC z4 X) := ⟨_, rfl⟩
            have nHB := Lib.hid (show Below W.heap.size W V9 by rw [hV9]; exact Below.setRowG HB.out LEG4.out _)
            have hq := RG4.out.setRow (C' := (ringC z4 X)) G4.out (no8_ring _ _)
            rw [← hV9] at hq
            have nRG4 := Lib.hid hq
            clear hq
            have hq := RG8.out.setRow (C' := (ringC z4 X)) G4.out (no8_ring _ _)
            rw [← hV9] at hq
            have nRG8 := Lib.hid hq
            clear hq
            have hq := RQ.out.setRow (C' := (ringC z4 X)) G4.out (no8_ring _ _)
            rw [← hV9] at hq
            have nRQ := Lib.hid hq
            clear hq
            have nG4 := Lib.hid (show Bx V9 g4 26 (ringC z4 X) from by rw [hV9]; exact Bx.setRow G4.out _)
            have nG8 := Lib.hid (show Bx V9 g8 26 (ringC z4 X) from by rw [hV9]; exact Bx.setRowOther G8.out NEG8G4.out _)
            rw [← hV9]
            clear hV9
            clear HB RG4 RG8 RQ G4 G8
            have HB := nHB
            have RG4 := nRG4
            have RG8 := nRG8
            have RQ := nRQ
            have G4 := nG4
            have G8 := nG8
            clear nHB nRG4 nRG8 nRQ nG4 nG8
            go_wp2_with fail
            go_roundw
            case rel => exact ⟨i + 1, t + 1, X, z4, by omega, rfl, by go_num, HNX, G4, RG8, HB⟩
            case measure => simp [intOf]; omega
          · rw [decide_eq_false h16] at HK8L
            have hxo : ¬ 0 < xo := of_decide_eq_false HK8L
            clear HK8L
            have htw : IntKind.i64.wrap (t + 1) = t + 1 := by rw [IntKind.wrap_i64]; omega
            go_upto_region 24 with fail
            go_upto_region 10 with (first | (refine loadX (.tmp 8) g8 (ringC z4 X) tyRing rfl G8.out rfl rfl rfl ?_) | (refine storeX (.tmp 4) (.tmp 156) g4 (ringC z4 X) _ tyRing rfl (ringC_one _ _) G4.out rfl rfl rfl rfl rfl ?_))
            obtain ⟨V9, hV9⟩ : ∃ V, V = w7.setRow g4 (ringC z4 X) := ⟨_, rfl⟩
            have nHB := Lib.hid (show Below W.heap.size W V9 by rw [hV9]; exact Below.setRowG HB.out LEG4.out _)
            have hq := RG4.out.setRow (C' := (ringC z4 X)) G4.out (no8_ring _ _)
            rw [← hV9] at hq
            have nRG4 := Lib.hid hq
            clear hq
            have hq := RG8.out.setRow (C' := (ringC z4 X)) G4.out (no8_ring _ _)
            rw [← hV9] at hq
            have nRG8 := Lib.hid hq
            clear hq
            have hq := RQ.out.setRow (C' := (ringC z4 X)) G4.out (no8_ring _ _)
            rw [← hV9] at hq
            have nRQ := Lib.hid hq
            clear hq
            have nG4 := Lib.hid (show Bx V9 g4 26 (ringC z4 X) from by rw [hV9]; exact Bx.setRow G4.out _)
            have nG8 := Lib.hid (show Bx V9 g8 26 (ringC z4 X) from by rw [hV9]; exact Bx.setRowOther G8.out NEG8G4.out _)
            rw [← hV9]
            clear hV9
            clear HB RG4 RG8 RQ G4 G8
            have HB := nHB
            have RG4 := nRG4
            have RG8 := nRG8
            have RQ := nRQ
            have G4 := nG4
            have G8 := nG8
            clear nHB nRG4 nRG8 nRQ nG4 nG8
            go_wp2_with fail
            go_roundw
            case rel => exact ⟨i + 1, t + 1, X, z4, by omega, rfl, by go_num, HNX, G4, RG8, HB⟩
            case measure => simp [intOf]; omega
      · have hj2b : ((j : Int) == 2) = false := beq_eq_false_iff_ne.2 (by omega)
        have hj4b : ((j : Int) == 4) = false := beq_eq_false_iff_ne.2 (by omega)
        have hj2c : (j == 2) = false := beq_eq_false_iff_ne.2 hj
        have hj4c : (j == 4) = false := beq_eq_false_iff_ne.2 hj4
        cases ok with
        | true =>
          have HTU1 := HTU.out
          have HTN1 := HTN.out
          obtain rfl : tu = false := HTU1.trans (by simp [hj])
          have htn : tn = t := HTN1.trans (by simp [hj4])
          have HK6L := HK6.out
          clear HTU1 HTN1 HTU HTN
          have hcc : decide (cr < cx) = false := HK6L.symm
          have hci : ¬ cr < cx := of_decide_eq_false hcc
          clear HK6 HK6L
          have c80 := Bx.cell G8.out HC8.out.1
          have c40 := Bx.cell G4.out HC4.out.1
          have c87 := Bx.cell G8.out HC8.out.2.2.2.2
          have c47 := Bx.cell G4.out HC4.out.2.2.2
          have c81 := Bx.cell G8.out HC8.out.2.1
          go_wp2_with fail
          refine (CK.out q _ RQ.out RG8.out).mono ?_
          rintro e w7 ⟨rfl, rfl⟩
          obtain ⟨q0, -, -⟩ := C0.out _ HB.out
          have c82 := Bx.cell G8.out HC8.out.2.2.1
          go_upto_region 22 with fail
          have HK8L := HK8.out
          replace htn := htn.symm
          subst htn
          by_cases h16 : (t : Int) < 16
          · rw [decide_eq_true h16] at HK8L
            have hxo : 0 < xo := of_decide_eq_true HK8L
            clear HK8L
            go_upto_region 24 with fail
            go_upto_region 10 with (first | (refine loadX (.tmp 8) g8 (ringC z4 X) tyRing rfl G8.out rfl rfl rfl ?_) | (refine storeX (.tmp 4) (.tmp 156) g4 (ringC z4 X) _ tyRing rfl (ringC_one _ _) G4.out rfl rfl rfl rfl rfl ?_))
            obtain ⟨V8, hV8⟩ : ∃ V, V = w6.setRow g4 (ringC z4 X) := ⟨_, rfl⟩
            have nHB := Lib.hid (show Below W.heap.size W V8 by rw [hV8]; exact Below.setRowG HB.out LEG4.out _)
            have hq := RG4.out.setRow (C' := (ringC z4 X)) G4.out (no8_ring _ _)
            rw [← hV8] at hq
            have nRG4 := Lib.hid hq
            clear hq
            have hq := RG8.out.setRow (C' := (ringC z4 X)) G4.out (no8_ring _ _)
            rw [← hV8] at hq
            have nRG8 := Lib.hid hq
            clear hq
            have hq := RQ.out.setRow (C' := (ringC z4 X)) G4.out (no8_ring _ _)
            rw [← hV8] at hq
            have nRQ := Lib.hid hq
            clear hq
            have nG4 := Lib.hid (show Bx V8 g4 26 (ringC z4 X) from by rw [hV8]; exact Bx.setRow G4.out _)
            have nG8 := Lib.hid (show Bx V8 g8 26 (ringC z4 X) from by rw [hV8]; exact Bx.setRowOther G8.out NEG8G4.out _)
            rw [← hV8]
            clear hV8
            clear HB RG4 RG8 RQ G4 G8
            have HB := nHB
            have RG4 := nRG4
            have RG8 := nRG8
            have RQ := nRQ
            have G4 := nG4
            have G8 := nG8
            clear nHB nRG4 nRG8 nRQ nG4 nG8
            go_wp2_with fail
            go_roundw
            case rel => exact ⟨i + 1, t, X, z4, by omega, rfl, by go_num, HNX, G4, RG8, HB⟩
            case measure => simp [intOf]; omega
          · rw [decide_eq_false h16] at HK8L
            have hxo : ¬ 0 < xo := of_decide_eq_false HK8L
            clear HK8L
            go_upto_region 24 with fail
            go_upto_region 10 with (first | (refine loadX (.tmp 8) g8 (ringC z4 X) tyRing rfl G8.out rfl rfl rfl ?_) | (refine storeX (.tmp 4) (.tmp 156) g4 (ringC z4 X) _ tyRing rfl (ringC_one _ _) G4.out rfl rfl rfl rfl rfl ?_))
            obtain ⟨V8, hV8⟩ : ∃ V, V = w6.setRow g4 (ringC z4 X) := ⟨_, rfl⟩
            have nHB := Lib.hid (show Below W.heap.size W V8 by rw [hV8]; exact Below.setRowG HB.out LEG4.out _)
            have hq := RG4.out.setRow (C' := (ringC z4 X)) G4.out (no8_ring _ _)
            rw [← hV8] at hq
            have nRG4 := Lib.hid hq
            clear hq
            have hq := RG8.out.setRow (C' := (ringC z4 X)) G4.out (no8_ring _ _)
            rw [← hV8] at hq
            have nRG8 := Lib.hid hq
            clear hq
            have hq := RQ.out.setRow (C' := (ringC z4 X)) G4.out (no8_ring _ _)
            rw [← hV8] at hq
            have nRQ := Lib.hid hq
            clear hq
            have nG4 := Lib.hid (show Bx V8 g4 26 (ringC z4 X) from by rw [hV8]; exact Bx.setRow G4.out _)
            have nG8 := Lib.hid (show Bx V8 g8 26 (ringC z4 X) from by rw [hV8]; exact Bx.setRowOther G8.out NEG8G4.out _)
            rw [← hV8]
            clear hV8
            clear HB RG4 RG8 RQ G4 G8
            have HB := nHB
            have RG4 := nRG4
            have RG8 := nRG8
            have RQ := nRQ
            have G4 := nG4
            have G8 := nG8
            clear nHB nRG4 nRG8 nRQ nG4 nG8
            go_wp2_with fail
            go_roundw
            case rel => exact ⟨i + 1, t, X, z4, by omega, rfl, by go_num, HNX, G4, RG8, HB⟩
            case measure => simp [intOf]; omega
        | false =>
          have HTU1 := HTU.out
          have HTN1 := HTN.out
          obtain rfl : tu = false := HTU1.trans (by simp [hj])
          have htn : tn = t := HTN1.trans (by simp [hj4])
          have HK6L := HK6.out
          clear HTU1 HTN1 HTU HTN
          have hcc : decide (cr < cx) = false := HK6L.symm
          have hci : ¬ cr < cx := of_decide_eq_false hcc
          clear HK6 HK6L
          have c80 := Bx.cell G8.out HC8.out.1
          have c40 := Bx.cell G4.out HC4.out.1
          have c87 := Bx.cell G8.out HC8.out.2.2.2.2
          have c47 := Bx.cell G4.out HC4.out.2.2.2
          have c81 := Bx.cell G8.out HC8.out.2.1
          go_wp2_with (first | (refine loadX (.tmp 8) g8 (ringC z4 X) tyRing rfl G8.out rfl rfl rfl ?_) | (refine loadX (.tmp 4) g4 (ringC y r) tyRing rfl G4.out rfl rfl rfl ?_))
          clear c80 c40 c87 c47 c81
          refine (CS.out _ RG8.out RG4.out (by first | rfl | trivial)).mono ?_
          rintro e w7 ⟨rfl, hb⟩
          have nHB := Lib.hid (belG HB.out hb HB.out.size)
          have nRG4 := Lib.hid (RG4.out.go hb)
          have nRG8 := Lib.hid (RG8.out.go hb)
          have nRQ := Lib.hid (RQ.out.go hb)
          have nG4 := Lib.hid (Bx.go G4.out hb)
          have nG8 := Lib.hid (Bx.go G8.out hb)
          clear hb
          clear HB RG4 RG8 RQ G4 G8
          have HB := nHB
          have RG4 := nRG4
          have RG8 := nRG8
          have RQ := nRQ
          have G4 := nG4
          have G8 := nG8
          clear nHB nRG4 nRG8 nRQ nG4 nG8
          have c80 := Bx.cell G8.out HC8.out.1
          have c40 := Bx.cell G4.out HC4.out.1
          have c87 := Bx.cell G8.out HC8.out.2.2.2.2
          have c47 := Bx.cell G4.out HC4.out.2.2.2
          have c81 := Bx.cell G8.out HC8.out.2.1
          go_wp2_with fail
          refine (CK.out q _ RQ.out RG8.out).mono ?_
          rintro e w8 ⟨rfl, rfl⟩
          obtain ⟨q0, -, -⟩ := C0.out _ HB.out
          have c82 := Bx.cell G8.out HC8.out.2.2.1
          go_upto_region 22 with fail
          have HK8L := HK8.out
          replace htn := htn.symm
          subst htn
          by_cases h16 : (t : Int) < 16
          · rw [decide_eq_true h16] at HK8L
            have hxo : 0 < xo := of_decide_eq_true HK8L
            clear HK8L
            go_upto_region 24 with fail
            go_upto_region 10 with (first | (refine loadX (.tmp 8) g8 (ringC z4 X) tyRing rfl G8.out rfl rfl rfl ?_) | (refine storeX (.tmp 4) (.tmp 156) g4 (ringC z4 X) _ tyRing rfl (ringC_one _ _) G4.out rfl rfl rfl rfl rfl ?_))
            obtain ⟨V9, hV9⟩ : ∃ V, V = w7.setRow g4 (ringC z4 X) := ⟨_, rfl⟩
            have nHB := Lib.hid (show Below W.heap.size W V9 by rw [hV9]; exact Below.setRowG HB.out LEG4.out _)
            have hq := RG4.out.setRow (C' := (ringC z4 X)) G4.out (no8_ring _ _)
            rw [← hV9] at hq
            have nRG4 := Lib.hid hq
            clear hq
            have hq := RG8.out.setRow (C' := (ringC z4 X)) G4.out (no8_ring _ _)
            rw [← hV9] at hq
            have nRG8 := Lib.hid hq
            clear hq
            have hq := RQ.out.setRow (C' := (ringC z4 X)) G4.out (no8_ring _ _)
            rw [← hV9] at hq
            have nRQ := Lib.hid hq
            clear hq
            have nG4 := Lib.hid (show Bx V9 g4 26 (ringC z4 X) from by rw [hV9]; exact Bx.setRow G4.out _)
            have nG8 := Lib.hid (show Bx V9 g8 26 (ringC z4 X) from by rw [hV9]; exact Bx.setRowOther G8.out NEG8G4.out _)
            rw [← hV9]
            clear hV9
            clear HB RG4 RG8 RQ G4 G8
            have HB := nHB
            have RG4 := nRG4
            have RG8 := nRG8
            have RQ := nRQ
            have G4 := nG4
            have G8 := nG8
            clear nHB nRG4 nRG8 nRQ nG4 nG8
            go_wp2_with fail
            go_roundw
            case rel => exact ⟨i + 1, t, X, z4, by omega, rfl, by go_num, HNX, G4, RG8, HB⟩
            case measure => simp [intOf]; omega
          · rw [decide_eq_false h16] at HK8L
            have hxo : ¬ 0 < xo := of_decide_eq_false HK8L
            clear HK8L
            go_upto_region 24 with fail
            go_upto_region 10 with (first | (refine loadX (.tmp 8) g8 (ringC z4 X) tyRing rfl G8.out rfl rfl rfl ?_) | (refine storeX (.tmp 4) (.tmp 156) g4 (ringC z4 X) _ tyRing rfl (ringC_one _ _) G4.out rfl rfl rfl rfl rfl ?_))
            obtain ⟨V9, hV9⟩ : ∃ V, V = w7.setRow g4 (ringC z4 X) := ⟨_, rfl⟩
            have nHB := Lib.hid (show Below W.heap.size W V9 by rw [hV9]; exact Below.setRowG HB.out LEG4.out _)
            have hq := RG4.out.setRow (C' := (ringC z4 X)) G4.out (no8_ring _ _)
            rw [← hV9] at hq
            have nRG4 := Lib.hid hq
            clear hq
            have hq := RG8.out.setRow (C' := (ringC z4 X)) G4.out (no8_ring _ _)
            rw [← hV9] at hq
            have nRG8 := Lib.hid hq
            clear hq
            have hq := RQ.out.setRow (C' := (ringC z4 X)) G4.out (no8_ring _ _)
            rw [← hV9] at hq
            have nRQ := Lib.hid hq
            clear hq
            have nG4 := Lib.hid (show Bx V9 g4 26 (ringC z4 X) from by rw [hV9]; exact Bx.setRow G4.out _)
            have nG8 := Lib.hid (show Bx V9 g8 26 (ringC z4 X) from by rw [hV9]; exact Bx.setRowOther G8.out NEG8G4.out _)
            rw [← hV9]
            clear hV9
            clear HB RG4 RG8 RQ G4 G8
            have HB := nHB
            have RG4 := nRG4
            have RG8 := nRG8
            have RQ := nRQ
            have G4 := nG4
            have G8 := nG8
            clear nHB nRG4 nRG8 nRQ nG4 nG8
            go_wp2_with fail
            go_roundw
            case rel => exact ⟨i + 1, t, X, z4, by omega, rfl, by go_num, HNX, G4, RG8, HB⟩
            case measure => simp [intOf]; omega
  · have hki : ¬ (i : Int) < (n : Int) := by omega
    go_wp2_with fail
    go_ret
    exact ⟨rfl, HB.out⟩
end Go.Proofs.Ytgnccfcdonoegaa
