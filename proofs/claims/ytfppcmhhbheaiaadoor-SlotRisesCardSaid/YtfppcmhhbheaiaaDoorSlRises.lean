
/- SlotRises' walk. -/
import Derived.Test.YtfppcmhhbheaiaaDoorSlS
namespace Go.Proofs.YtfppcmhhbheaiaaDoor
open Go.RowKit

set_option maxRecDepth 100000 in
set_option maxHeartbeats 16000000 in
theorem slotRises_walk (x : Wt) (s : Sr) (A : Option Addr) (l : List Int) (c : Nat) (W : World) (hx : StR W x s) (hz : I64s l) (hr : RdI W W.heap.size A l) (hT : Ks W) :
    Calls Tryd.prog 4 #[.agg (storC x s), .slice A l.length c] W fun e W' => e = .returned (.bool true) ∧ Below W.heap.size W W' := by
  have HT := Lib.hid hT
  have RS := Lib.hid hx
  have CR := Lib.hid (fun w => right13_any x s w)
  obtain ⟨n, hn⟩ : ∃ n, n = l.length := ⟨_, rfl⟩
  have HNL := Lib.hid hn
  have HZ := Lib.hid hz
  have HC := Lib.hid (fun (i : Nat) (h : i < l.length) w (hb : Below W.heap.size W w) => (show ∃ b o, A = some ⟨b, o, none⟩ ∧ w.cell? ⟨b, o + i, none⟩ = some (.int .i64 l[i]) from by
    obtain ⟨b, o, e, h1, h2⟩ := hr.at_ h
    exact ⟨b, o, e, (hb.cell (p := ⟨b, o + i, none⟩) h1).trans h2⟩))
  rw [← hn]
  clear hT hx hz hr hn
  by_cases hR : RightS s
  case neg =>
    rw [decide_eq_false hR] at CR
    clear hR
    obtain ⟨V0, hV, hb, hg⟩ := bx1 W 24 (storC x s)
    have HB := Lib.hid hb
    have S := Lib.hid hg
    have HV := Lib.hid hV
    have nRS := Lib.hid (RS.out.go hb)
    clear RS
    have RS := nRS
    clear nRS
    clear hb hg hV
    go_enter Tryd.func4, Tryd.ntmps4
    go_upto_region 1 with (fail)
    rw [← HV.out]
    clear HV
    go_wp2_with fail
    refine (shown13_any _ (HT.out.below HB.out HT.out.1)).mono ?_
    rintro e w1 ⟨rfl, hb⟩
    have nHB := Lib.hid (belG HB.out hb HB.out.size)
    have nRS := Lib.hid (RS.out.go hb)
    have nS := Lib.hid (Bx.go S.out hb)
    clear hb
    clear HB RS S
    have HB := nHB
    have RS := nRS
    have S := nS
    clear nHB nRS nS
    go_wp2_with (refine loadX (.tmp 2) W.heap.size (storC x s) tyStore rfl S.out rfl rfl rfl ?_)
    refine (CR.out _).mono ?_
    rintro e w2 ⟨rfl, hb⟩
    have nHB := Lib.hid (belG HB.out hb HB.out.size)
    have nRS := Lib.hid (RS.out.go hb)
    have nS := Lib.hid (Bx.go S.out hb)
    clear hb
    clear HB RS S
    have HB := nHB
    have RS := nRS
    have S := nS
    clear nHB nRS nS
    go_wp2_with fail
    go_ret
    exact ⟨rfl, HB.out⟩
  rw [decide_eq_true hR] at CR
  by_cases h30 : 30 < n
  case pos =>
    have k0 : (30 : Int) < (n : Int) := by omega
    clear hR h30
    obtain ⟨V0, hV, hb, hg⟩ := bx1 W 24 (storC x s)
    have HB := Lib.hid hb
    have S := Lib.hid hg
    have HV := Lib.hid hV
    have nRS := Lib.hid (RS.out.go hb)
    clear RS
    have RS := nRS
    clear nRS
    clear hb hg hV
    go_enter Tryd.func4, Tryd.ntmps4
    go_upto_region 1 with (fail)
    rw [← HV.out]
    clear HV
    go_wp2_with fail
    refine (shown13_any _ (HT.out.below HB.out HT.out.1)).mono ?_
    rintro e w1 ⟨rfl, hb⟩
    have nHB := Lib.hid (belG HB.out hb HB.out.size)
    have nRS := Lib.hid (RS.out.go hb)
    have nS := Lib.hid (Bx.go S.out hb)
    clear hb
    clear HB RS S
    have HB := nHB
    have RS := nRS
    have S := nS
    clear nHB nRS nS
    go_wp2_with (refine loadX (.tmp 2) W.heap.size (storC x s) tyStore rfl S.out rfl rfl rfl ?_)
    refine (CR.out _).mono ?_
    rintro e w2 ⟨rfl, hb⟩
    have nHB := Lib.hid (belG HB.out hb HB.out.size)
    have nRS := Lib.hid (RS.out.go hb)
    have nS := Lib.hid (Bx.go S.out hb)
    clear hb
    clear HB RS S
    have HB := nHB
    have RS := nRS
    have S := nS
    clear nHB nRS nS
    go_wp2_with fail
    go_ret
    exact ⟨rfl, HB.out⟩
  have k0 : ¬ (30 : Int) < (n : Int) := by omega
  have HI0 := Lib.hid (show RiseI s 0 from ⟨hR, Int.le_refl _, fun h => absurd h (by decide)⟩)
  have LES := Lib.hid (Nat.le_refl W.heap.size)
  clear hR h30
  obtain ⟨V0, hV, hb, hg⟩ := bx1 W 24 (storC x s)
  have HB := Lib.hid hb
  have S := Lib.hid hg
  have HV := Lib.hid hV
  have nRS := Lib.hid (RS.out.go hb)
  clear RS
  have RS := nRS
  clear nRS
  clear hb hg hV
  go_enter Tryd.func4, Tryd.ntmps4
  go_upto_region 1 with (fail)
  rw [← HV.out]
  clear HV
  go_wp2_with fail
  refine (shown13_any _ (HT.out.below HB.out HT.out.1)).mono ?_
  rintro e w1 ⟨rfl, hb⟩
  have nHB := Lib.hid (belG HB.out hb HB.out.size)
  have nRS := Lib.hid (RS.out.go hb)
  have nS := Lib.hid (Bx.go S.out hb)
  clear hb
  clear HB RS S
  have HB := nHB
  have RS := nRS
  have S := nS
  clear nHB nRS nS
  go_wp2_with (refine loadX (.tmp 2) W.heap.size (storC x s) tyStore rfl S.out rfl rfl rfl ?_)
  refine (CR.out _).mono ?_
  rintro e w2 ⟨rfl, hb⟩
  have nHB := Lib.hid (belG HB.out hb HB.out.size)
  have nRS := Lib.hid (RS.out.go hb)
  have nS := Lib.hid (Bx.go S.out hb)
  clear hb
  clear HB RS S
  have HB := nHB
  have RS := nRS
  have S := nS
  clear nHB nRS nS
  go_wp2_with fail
  go_loopw [6, 7] (fun v6 v7 wr => ∃ (i : Nat) (p : Sr) (y : Wt) (la : Int), i ≤ n ∧ v6 = .int .i64 la ∧ v7 = .int .i64 i ∧ Hid (RiseI p la) ∧ Hid (BxS wr W.heap.size y p) ∧ Hid (StR wr y p) ∧ Hid (Below W.heap.size W wr)) (fun _ v7 _ => n - (intOf v7).toNat)
  case atStart => exact ⟨0, s, x, 0, Nat.zero_le _, rfl, rfl, HI0, S, RS, HB⟩
  case round =>
  clear S RS HB HI0
  obtain ⟨i, p, y, la, hi, rfl, rfl, HI, S, RS, HB⟩ := hrel
  by_cases hlt : i < n
  · have hiI : (i : Int) < (n : Int) := by omega
    have hi0 : (0 : Int) ≤ (i : Int) := by omega
    have hil : i < l.length := by rw [← HNL.out]; exact hlt
    obtain ⟨cb, co, hA, -⟩ := HC.out i hil wr HB.out
    obtain ⟨cv, hcv⟩ : ∃ v, v = l[i] := ⟨_, rfl⟩
    have hb64 : B64t cv := by rw [hcv]; exact HZ.out _ (List.getElem_mem hil)
    have HCC := Lib.hid (fun w (hb : Below W.heap.size W w) => (show w.cell? ⟨cb, co + i, none⟩ = some (.int .i64 cv) from by
      obtain ⟨b, o, e, h2⟩ := HC.out i hil w hb
      rw [hA] at e
      simp only [Option.some.injEq, Addr.mk.injEq] at e
      obtain ⟨rfl, rfl, -⟩ := e
      rw [hcv]; exact h2))
    have hla : 0 ≤ la := HI.out.2.1
    obtain ⟨r1, r2, r3, r4, r5⟩ := rise_step HI.out cv
    have ET := Lib.hid (fun w hT h => sTake_any y p cv w hT HI.out.1 hb64 h)
    obtain ⟨q, hq⟩ : ∃ q, q = (takeS p cv).1 := ⟨_, rfl⟩
    obtain ⟨n1, hn1⟩ : ∃ q, q = (takeS p cv).2.1 := ⟨_, rfl⟩
    obtain ⟨m1, hm1⟩ : ∃ q, q = (takeS p cv).2.2 := ⟨_, rfl⟩
    rw [← hq, ← hn1, ← hm1] at ET
    rw [← hq] at r1
    rw [← hq, ← hn1, ← hm1] at r5
    rw [← hn1, ← hm1] at r2 r3
    rw [← hm1] at r4
    have DR := Lib.hid (fun z w => right13_any z q w)
    rw [decide_eq_true r1] at DR
    have DB := Lib.hid (fun z w hT h => sBest_any z q w hT r1 h)
    obtain ⟨bp, hbp⟩ : ∃ q', q' = (bestS q).1 := ⟨_, rfl⟩
    obtain ⟨ba, hba⟩ : ∃ q', q' = (bestS q).2.1 := ⟨_, rfl⟩
    obtain ⟨bi, hbi⟩ : ∃ q', q' = (bestS q).2.2 := ⟨_, rfl⟩
    rw [← hbp, ← hba, ← hbi] at DB
    have RB := Lib.hid (show ∀ u, RiseI q u → 0 < u → bi = true ∧ u < bp from fun u h h2 => by rw [hbi, hbp]; exact h.2.2 h2)
    subst hA
    have R2 := Lib.hid r2
    have R3 := Lib.hid r3
    have R4 := Lib.hid r4
    have R5 := Lib.hid r5
    have HLA := Lib.hid hla
    clear hq hn1 hm1 hbp hba hbi hcv hil hb64 r1 r2 r3 r4 r5 hla
    go_upto_region 8 with (fail)
    go_cut [8, 9, 10] (fun t8 t9 t10 wx => t9 = .int .i64 n1 ∧ t10 = .int .i64 m1 ∧ ∃ g z, t8 = .pointer (some ⟨g, 0, none⟩) ∧ BxS wx g z q ∧ StR wx z q ∧ BxS wx W.heap.size y p ∧ StR wx y p ∧ Below W.heap.size W wx ∧ W.heap.size ≤ g ∧ W.heap.size ≠ g)
    case first =>
      have BB0 := Lib.hid (HB.out.drew)
      have KEEP := Lib.hid (fun w' (hW : Below W.heap.size W w') (hS : Bx w' W.heap.size 24 (storC y p)) => (show Below W.heap.size W w' ∧ Bx w' W.heap.size 24 (storC y p) from ⟨hW, hS⟩))
      have HS_0 := Lib.hid (Bx.drew S.out)
      have RS_0 := Lib.hid (RS.out.go ((Below.refl wr.heap.size wr).drew))
      refine wp_region_noPanic ?_
      refine wp_region_held_drew (S := fun w' => Below W.heap.size W w' ∧ Bx w' W.heap.size 24 (storC y p)) (by kernel_rfl) (KEEP.out _ BB0.out HS_0.out) (fun hHeld => ?_)
      obtain ⟨wz0, hwz⟩ : ∃ x, x = wr.drew := ⟨_, rfl⟩
      rw [← hwz] at BB0 hHeld HS_0 RS_0 ⊢
      clear hwz
      refine wpAnyH_take (i := 0) (oi := ?_) (v := .agg (storC y p)) ?_ (by kernel_rfl) (by decide +kernel) (by decide +kernel) (fun _ _ _ h => h) ?_ (by assumption) ?_
      rotate_left 1
      focus (simp only [List.getElem?_toArray, List.getElem?_cons_zero] <;> rfl)
      · refine yieldsX (T := 24) ?_ (.tmp 2) ?_ ⟨W.heap.size, 0, none⟩ ?_ (storC y p) ?_
        focus rfl
        focus exact rfl
        focus exact rfl
        exact fun w hSw => run_loadX tyStore rfl (hSw.2)
      (try simp only [Act.put, List.setIfInBounds_toArray, List.set_cons_zero, List.set_cons_succ])
      refine wpAnyH_take (i := 1) (oi := ?_) (v := ?_) ?_ (by kernel_rfl) (by decide +kernel) (by decide +kernel) (fun _ _ _ h => h) ?_ (by assumption) ?_
      rotate_left 2
      focus (simp only [List.getElem?_toArray, List.getElem?_cons_succ, List.getElem?_cons_zero] <;> rfl)
      · refine Or.inl ⟨by rfl, ?_⟩
        intro w hSw
        (try dsimp only at hSw)
        go_simp <;> with_reducible rfl
      (try simp only [Act.put, List.setIfInBounds_toArray, List.set_cons_zero, List.set_cons_succ])
      refine wpAnyH_take (i := 2) (oi := ?_) (v := ?_) ?_ (by kernel_rfl) (by decide +kernel) (by decide +kernel) (fun _ _ _ h => h) ?_ (by assumption) ?_
      rotate_left 2
      focus (simp only [List.getElem?_toArray, List.getElem?_cons_succ, List.getElem?_cons_zero] <;> rfl)
      · refine Or.inl ⟨by rfl, ?_⟩
        intro w hSw
        (try dsimp only at hSw)
        go_simp <;> with_reducible rfl
      (try simp only [Act.put, List.setIfInBounds_toArray, List.set_cons_zero, List.set_cons_succ])
      refine wpAnyH_take (i := 3) (oi := ?_) (v := ?_) ?_ (by kernel_rfl) (by decide +kernel) (by decide +kernel) (fun _ _ _ h => h) ?_ (by assumption) ?_
      rotate_left 2
      focus (simp only [List.getElem?_toArray, List.getElem?_cons_succ, List.getElem?_cons_zero] <;> rfl)
      · refine Or.inl ⟨by rfl, ?_⟩
        intro w hSw
        (try dsimp only at hSw)
        go_simp <;> with_reducible rfl
      (try simp only [Act.put, List.setIfInBounds_toArray, List.set_cons_zero, List.set_cons_succ])
      refine wpAnyH_take (i := 4) (oi := ?_) (v := ?_) ?_ (by kernel_rfl) (by decide +kernel) (by decide +kernel) (fun _ _ _ h => h) ?_ (by assumption) ?_
      rotate_left 2
      focus (simp only [List.getElem?_toArray, List.getElem?_cons_succ, List.getElem?_cons_zero] <;> rfl)
      · refine Or.inl ⟨by rfl, ?_⟩
        intro w hSw
        have hcell := HCC.out w hSw.1
        go_simp <;> with_reducible rfl
      (try simp only [Act.put, List.setIfInBounds_toArray, List.set_cons_zero, List.set_cons_succ])
      refine wpAnyH_ready (rs := [5, 10]) (by decide +kernel) (by simp) ?_
      refine AllReadyH.cons (o := ?_) ?_ (fun K hK => ?_) ?_
      rotate_left 1
      focus (simp only [List.getElem?_toArray, List.getElem?_cons_succ, List.getElem?_cons_zero] <;> rfl)
      · (try rw [if_pos (by rfl)])
        go_simp
        go_at_call 22
        refine (ET.out _ (HT.out.below BB0.out HT.out.1) RS_0.out).mono ?_
        rintro e wz1 ⟨⟨z, rfl, hk⟩, hb⟩
        have BB1 := Lib.hid (belG BB0.out hb BB0.out.size)
        have RS_1 := Lib.hid (RS_0.out.go hb)
        have HS_1 := Lib.hid (Bx.go HS_0.out hb)
        have RZ_1 := Lib.hid hk
        clear hk
        clear hb
        refine hK.out _ _ (KEEP.out _ BB1.out HS_1.out) (fun hHeld => ?_)
        clear hK K
        (try simp only [Act.put, List.setIfInBounds_toArray, List.set_cons_zero, List.set_cons_succ])
        refine wpAnyH_take (i := 6) (oi := ?_) (v := ?_) ?_ (by kernel_rfl) (by decide +kernel) (by decide +kernel) (fun _ _ _ h => h) ?_ (by assumption) ?_
        rotate_left 2
        focus (simp only [List.getElem?_toArray, List.getElem?_cons_succ, List.getElem?_cons_zero] <;> rfl)
        · refine Or.inl ⟨by rfl, ?_⟩
          intro w hSw
          (try dsimp only at hSw)
          go_simp <;> with_reducible rfl
        (try simp only [Act.put, List.setIfInBounds_toArray, List.set_cons_zero, List.set_cons_succ])
        refine wpAnyH_take (i := 7) (oi := ?_) (v := ?_) ?_ (by kernel_rfl) (by decide +kernel) (by decide +kernel) (fun _ _ _ h => h) ?_ (by assumption) ?_
        rotate_left 2
        focus (simp only [List.getElem?_toArray, List.getElem?_cons_succ, List.getElem?_cons_zero] <;> rfl)
        · refine Or.inl ⟨by rfl, ?_⟩
          intro w hSw
          (try dsimp only at hSw)
          go_simp <;> with_reducible rfl
        (try simp only [Act.put, List.setIfInBounds_toArray, List.set_cons_zero, List.set_cons_succ])
        refine wpAnyH_take (i := 8) (oi := ?_) (v := ?_) ?_ (by kernel_rfl) (by decide +kernel) (by decide +kernel) (fun _ _ _ h => h) ?_ (by assumption) ?_
        rotate_left 2
        focus (simp only [List.getElem?_toArray, List.getElem?_cons_succ, List.getElem?_cons_zero] <;> rfl)
        · refine Or.inl ⟨by rfl, ?_⟩
          intro w hSw
          (try dsimp only at hSw)
          go_simp <;> with_reducible rfl
        (try simp only [Act.put, List.setIfInBounds_toArray, List.set_cons_zero, List.set_cons_succ])
        refine wpAnyH_take (i := 9) (oi := ?_) (v := ?_) ?_ (by kernel_rfl) (by decide +kernel) (by decide +kernel) (fun _ _ _ h => h) ?_ (by assumption) ?_
        rotate_left 2
        focus (simp only [List.getElem?_toArray, List.getElem?_cons_succ, List.getElem?_cons_zero] <;> rfl)
        · refine Or.inl ⟨by rfl, ?_⟩
          intro w hSw
          (try dsimp only at hSw)
          go_simp <;> with_reducible rfl
        (try simp only [Act.put, List.setIfInBounds_toArray, List.set_cons_zero, List.set_cons_succ])
        refine wpAnyH_ready (rs := [10]) (by decide +kernel) (by simp) ?_
        refine AllReadyH.cons (o := ?_) ?_ (fun K hK => ?_) AllReadyH.nil
        rotate_left 1
        focus (simp only [List.getElem?_toArray, List.getElem?_cons_succ, List.getElem?_cons_zero] <;> rfl)
        go_simp
        obtain ⟨wz2, hwz⟩ : ∃ x, x = wz1.alloc (.cells #[.slice none 0 0, .slice none 0 0] 24) := ⟨_, rfl⟩
        have hb : Below wz1.heap.size wz1 wz2 := by rw [hwz]; exact (Below.refl wz1.heap.size wz1).alloc (Nat.le_refl _) _
        have hx : Bx wz2 wz1.heap.size 24 (storC wt0 sr0) := by rw [hwz]; exact Bx.new _ _ _
        have BB2 := Lib.hid (belG BB1.out hb BB1.out.size)
        rw [← hwz]
        obtain ⟨ga2, hga⟩ : ∃ g, g = wz1.heap.size := ⟨_, rfl⟩
        rw [← hga] at hx
        (try rw [← hga])
        have HD_2 := Lib.hid hx
        have LED := Lib.hid (show W.heap.size ≤ ga2 from by rw [hga]; exact BB1.out.size)
        have NESD := Lib.hid (show W.heap.size ≠ ga2 from by have h1 := Bx.lt HS_1.out; rw [hga]; omega)
        have NEDS := Lib.hid (NESD.out.symm)
        have HS_2 := Lib.hid (Bx.go HS_1.out hb)
        have RS_2 := Lib.hid (RS_1.out.go hb)
        have RZ_2 := Lib.hid (RZ_1.out.go hb)
        clear hb hx hwz hga
        refine hK.out _ _ (KEEP.out _ BB2.out HS_2.out) (fun hHeld => ?_)
        clear hK K
        (try simp only [Act.put, List.setIfInBounds_toArray, List.set_cons_zero, List.set_cons_succ])
        refine wpAnyH_ready (rs := [11]) (by decide +kernel) (by simp) ?_
        refine AllReadyH.cons (o := ?_) ?_ (fun K hK => ?_) AllReadyH.nil
        rotate_left 1
        focus (simp only [List.getElem?_toArray, List.getElem?_cons_succ, List.getElem?_cons_zero] <;> rfl)
        rw [if_pos (by rfl)]
        refine wp_storeX (.tmp 8) (.tmp 38) ga2 (storC z q) _ tyStore rfl (storC_one _ _) HD_2.out rfl rfl rfl rfl ?_
        (try simp only [Act.put])
        obtain ⟨wz3, hwz⟩ : ∃ x, x = wz2.setRow ga2 (storC z q) := ⟨_, rfl⟩
        have BB3 := Lib.hid (show Below W.heap.size W wz3 from by rw [hwz]; exact Below.setRowG BB2.out LED.out _)
        have hq := Bx.setRowOther HS_2.out NESD.out (storC z q)
        rw [← hwz] at hq
        have HS_3 := Lib.hid hq
        clear hq
        have HD_3 := Lib.hid (show Bx wz3 ga2 24 (storC z q) from by rw [hwz]; exact Bx.setRow HD_2.out _)
        have hq := RS_2.out.setRow (C' := (storC z q)) HD_2.out (no8_stor _ _)
        rw [← hwz] at hq
        have RS_3 := Lib.hid hq
        clear hq
        have hq := RZ_2.out.setRow (C' := (storC z q)) HD_2.out (no8_stor _ _)
        rw [← hwz] at hq
        have RZ_3 := Lib.hid hq
        clear hq
        rw [← hwz]
        clear hwz
        refine hK.out _ _ (KEEP.out _ BB3.out HS_3.out) (fun hHeld => ?_)
        clear hK K
        (try dsimp only)
        refine wpAnyH_take (i := 12) (oi := ?_) (v := ?_) ?_ (by kernel_rfl) (by decide +kernel) (by decide +kernel) (fun _ _ _ h => h) ?_ (by assumption) ?_
        rotate_left 2
        focus (simp only [List.getElem?_toArray, List.getElem?_cons_succ, List.getElem?_cons_zero] <;> rfl)
        · refine Or.inl ⟨by rfl, ?_⟩
          intro w hSw
          (try dsimp only at hSw)
          go_simp <;> with_reducible rfl
        (try simp only [Act.put, List.setIfInBounds_toArray, List.set_cons_zero, List.set_cons_succ])
        refine wpAnyH_take (i := 13) (oi := ?_) (v := ?_) ?_ (by kernel_rfl) (by decide +kernel) (by decide +kernel) (fun _ _ _ h => h) ?_ (by assumption) ?_
        rotate_left 2
        focus (simp only [List.getElem?_toArray, List.getElem?_cons_succ, List.getElem?_cons_zero] <;> rfl)
        · refine Or.inl ⟨by rfl, ?_⟩
          intro w hSw
          (try dsimp only at hSw)
          go_simp <;> with_reducible rfl
        (try simp only [Act.put, List.setIfInBounds_toArray, List.set_cons_zero, List.set_cons_succ])
        refine wpAnyH_done (by decide +kernel) ?_ _
        refine NoPanic.normal ?_
        clear KEEP
        go_wp2_with fail
        go_meet
        case rel => exact ⟨rfl, rfl, ga2, z, rfl, HD_3.out, RZ_3.out, HS_3.out, RS_3.out, BB3.out, LED.out, NESD.out⟩
      refine AllReadyH.cons (o := ?_) ?_ (fun K hK => ?_) AllReadyH.nil
      rotate_left 1
      focus (simp only [List.getElem?_toArray, List.getElem?_cons_succ, List.getElem?_cons_zero] <;> rfl)
      go_simp
      obtain ⟨wz4, hwz⟩ : ∃ x, x = wz0.alloc (.cells #[.slice none 0 0, .slice none 0 0] 24) := ⟨_, rfl⟩
      have hb : Below wz0.heap.size wz0 wz4 := by rw [hwz]; exact (Below.refl wz0.heap.size wz0).alloc (Nat.le_refl _) _
      have hx : Bx wz4 wz0.heap.size 24 (storC wt0 sr0) := by rw [hwz]; exact Bx.new _ _ _
      have BB4 := Lib.hid (belG BB0.out hb BB0.out.size)
      rw [← hwz]
      obtain ⟨ga4, hga⟩ : ∃ g, g = wz0.heap.size := ⟨_, rfl⟩
      rw [← hga] at hx
      (try rw [← hga])
      have HD_4 := Lib.hid hx
      have LED := Lib.hid (show W.heap.size ≤ ga4 from by rw [hga]; exact BB0.out.size)
      have NESD := Lib.hid (show W.heap.size ≠ ga4 from by have h1 := Bx.lt HS_0.out; rw [hga]; omega)
      have NEDS := Lib.hid (NESD.out.symm)
      have HS_4 := Lib.hid (Bx.go HS_0.out hb)
      have RS_4 := Lib.hid (RS_0.out.go hb)
      clear hb hx hwz hga
      refine hK.out _ _ (KEEP.out _ BB4.out HS_4.out) (fun hHeld => ?_)
      clear hK K
      (try simp only [Act.put, List.setIfInBounds_toArray, List.set_cons_zero, List.set_cons_succ])
      refine wpAnyH_ready (rs := [5]) (by decide +kernel) (by simp) ?_
      refine AllReadyH.cons (o := ?_) ?_ (fun K hK => ?_) AllReadyH.nil
      rotate_left 1
      focus (simp only [List.getElem?_toArray, List.getElem?_cons_succ, List.getElem?_cons_zero] <;> rfl)
      (try rw [if_pos (by rfl)])
      go_simp
      go_at_call 22
      refine (ET.out _ (HT.out.below BB4.out HT.out.1) RS_4.out).mono ?_
      rintro e wz5 ⟨⟨z, rfl, hk⟩, hb⟩
      have BB5 := Lib.hid (belG BB4.out hb BB4.out.size)
      have RS_5 := Lib.hid (RS_4.out.go hb)
      have HS_5 := Lib.hid (Bx.go HS_4.out hb)
      have HD_5 := Lib.hid (Bx.go HD_4.out hb)
      have RZ_5 := Lib.hid hk
      clear hk
      clear hb
      refine hK.out _ _ (KEEP.out _ BB5.out HS_5.out) (fun hHeld => ?_)
      clear hK K
      (try simp only [Act.put, List.setIfInBounds_toArray, List.set_cons_zero, List.set_cons_succ])
      refine wpAnyH_take (i := 6) (oi := ?_) (v := ?_) ?_ (by kernel_rfl) (by decide +kernel) (by decide +kernel) (fun _ _ _ h => h) ?_ (by assumption) ?_
      rotate_left 2
      focus (simp only [List.getElem?_toArray, List.getElem?_cons_succ, List.getElem?_cons_zero] <;> rfl)
      · refine Or.inl ⟨by rfl, ?_⟩
        intro w hSw
        (try dsimp only at hSw)
        go_simp <;> with_reducible rfl
      (try simp only [Act.put, List.setIfInBounds_toArray, List.set_cons_zero, List.set_cons_succ])
      refine wpAnyH_take (i := 7) (oi := ?_) (v := ?_) ?_ (by kernel_rfl) (by decide +kernel) (by decide +kernel) (fun _ _ _ h => h) ?_ (by assumption) ?_
      rotate_left 2
      focus (simp only [List.getElem?_toArray, List.getElem?_cons_succ, List.getElem?_cons_zero] <;> rfl)
      · refine Or.inl ⟨by rfl, ?_⟩
        intro w hSw
        (try dsimp only at hSw)
        go_simp <;> with_reducible rfl
      (try simp only [Act.put, List.setIfInBounds_toArray, List.set_cons_zero, List.set_cons_succ])
      refine wpAnyH_take (i := 8) (oi := ?_) (v := ?_) ?_ (by kernel_rfl) (by decide +kernel) (by decide +kernel) (fun _ _ _ h => h) ?_ (by assumption) ?_
      rotate_left 2
      focus (simp only [List.getElem?_toArray, List.getElem?_cons_succ, List.getElem?_cons_zero] <;> rfl)
      · refine Or.inl ⟨by rfl, ?_⟩
        intro w hSw
        (try dsimp only at hSw)
        go_simp <;> with_reducible rfl
      (try simp only [Act.put, List.setIfInBounds_toArray, List.set_cons_zero, List.set_cons_succ])
      refine wpAnyH_take (i := 9) (oi := ?_) (v := ?_) ?_ (by kernel_rfl) (by decide +kernel) (by decide +kernel) (fun _ _ _ h => h) ?_ (by assumption) ?_
      rotate_left 2
      focus (simp only [List.getElem?_toArray, List.getElem?_cons_succ, List.getElem?_cons_zero] <;> rfl)
      · refine Or.inl ⟨by rfl, ?_⟩
        intro w hSw
        (try dsimp only at hSw)
        go_simp <;> with_reducible rfl
      (try simp only [Act.put, List.setIfInBounds_toArray, List.set_cons_zero, List.set_cons_succ])
      refine wpAnyH_ready (rs := [11]) (by decide +kernel) (by simp) ?_
      refine AllReadyH.cons (o := ?_) ?_ (fun K hK => ?_) AllReadyH.nil
      rotate_left 1
      focus (simp only [List.getElem?_toArray, List.getElem?_cons_succ, List.getElem?_cons_zero] <;> rfl)
      rw [if_pos (by rfl)]
      refine wp_storeX (.tmp 8) (.tmp 38) ga4 (storC z q) _ tyStore rfl (storC_one _ _) HD_5.out rfl rfl rfl rfl ?_
      (try simp only [Act.put])
      obtain ⟨wz6, hwz⟩ : ∃ x, x = wz5.setRow ga4 (storC z q) := ⟨_, rfl⟩
      have BB6 := Lib.hid (show Below W.heap.size W wz6 from by rw [hwz]; exact Below.setRowG BB5.out LED.out _)
      have hq := Bx.setRowOther HS_5.out NESD.out (storC z q)
      rw [← hwz] at hq
      have HS_6 := Lib.hid hq
      clear hq
      have HD_6 := Lib.hid (show Bx wz6 ga4 24 (storC z q) from by rw [hwz]; exact Bx.setRow HD_5.out _)
      have hq := RS_5.out.setRow (C' := (storC z q)) HD_5.out (no8_stor _ _)
      rw [← hwz] at hq
      have RS_6 := Lib.hid hq
      clear hq
      have hq := RZ_5.out.setRow (C' := (storC z q)) HD_5.out (no8_stor _ _)
      rw [← hwz] at hq
      have RZ_6 := Lib.hid hq
      clear hq
      rw [← hwz]
      clear hwz
      refine hK.out _ _ (KEEP.out _ BB6.out HS_6.out) (fun hHeld => ?_)
      clear hK K
      (try dsimp only)
      refine wpAnyH_take (i := 12) (oi := ?_) (v := ?_) ?_ (by kernel_rfl) (by decide +kernel) (by decide +kernel) (fun _ _ _ h => h) ?_ (by assumption) ?_
      rotate_left 2
      focus (simp only [List.getElem?_toArray, List.getElem?_cons_succ, List.getElem?_cons_zero] <;> rfl)
      · refine Or.inl ⟨by rfl, ?_⟩
        intro w hSw
        (try dsimp only at hSw)
        go_simp <;> with_reducible rfl
      (try simp only [Act.put, List.setIfInBounds_toArray, List.set_cons_zero, List.set_cons_succ])
      refine wpAnyH_take (i := 13) (oi := ?_) (v := ?_) ?_ (by kernel_rfl) (by decide +kernel) (by decide +kernel) (fun _ _ _ h => h) ?_ (by assumption) ?_
      rotate_left 2
      focus (simp only [List.getElem?_toArray, List.getElem?_cons_succ, List.getElem?_cons_zero] <;> rfl)
      · refine Or.inl ⟨by rfl, ?_⟩
        intro w hSw
        (try dsimp only at hSw)
        go_simp <;> with_reducible rfl
      (try simp only [Act.put, List.setIfInBounds_toArray, List.set_cons_zero, List.set_cons_succ])
      refine wpAnyH_done (by decide +kernel) ?_ _
      refine NoPanic.normal ?_
      clear KEEP
      go_wp2_with fail
      go_meet
      case rel => exact ⟨rfl, rfl, ga4, z, rfl, HD_6.out, RZ_6.out, HS_6.out, RS_6.out, BB6.out, LED.out, NESD.out⟩
    case rest =>
    obtain ⟨rfl, rfl, d, z, rfl, hg, hrz, hs, hry, hb, hge, hne⟩ := hcut
    obtain ⟨w5, hw⟩ : ∃ x, x = wc := ⟨_, rfl⟩
    rw [← hw] at hg hrz hs hry hb ⊢
    clear hw HB S RS
    have D := Lib.hid hg
    have RZ := Lib.hid hrz
    have S := Lib.hid hs
    have HB := Lib.hid hb
    have NESD := Lib.hid hne
    have NEDS := Lib.hid hne.symm
    have cc := HCC.out w5 hb
    clear hg hrz hs hry hb hge hne HCC HC
    obtain ⟨tb, htb⟩ : ∃ q, q = decide (0 ≤ cv ∧ cv < 16) := ⟨_, rfl⟩
    have HTB := Lib.hid htb
    clear htb
    go_upto_region 9 with (fail)
    go_cut [11] (fun t11 wx => t11 = .bool tb ∧ wx = w5)
    case first =>
      by_cases h0 : 0 ≤ cv
      · by_cases h16 : cv < 16
        · obtain rfl : tb = true := by rw [HTB.out]; exact decide_eq_true ⟨h0, h16⟩
          go_wp2_with fail
          go_meet
          case rel => exact ⟨rfl, rfl⟩
        · obtain rfl : tb = false := by rw [HTB.out]; exact decide_eq_false (fun h => h16 h.2)
          go_wp2_with fail
          go_meet
          case rel => exact ⟨rfl, rfl⟩
      · obtain rfl : tb = false := by rw [HTB.out]; exact decide_eq_false (fun h => h0 h.1)
        go_wp2_with fail
        go_meet
        case rel => exact ⟨rfl, rfl⟩
    case rest =>
    obtain ⟨rfl, hw⟩ := hcut
    obtain rfl := hw
    clear cc
    by_cases hm0 : m1 = 0
    · subst hm0
      obtain ⟨hlt1, hnt⟩ := R2.out rfl
      have r5 := R5.out
      have hla := HLA.out
      rw [if_pos rfl] at r5
      have hrise := r5
      obtain ⟨rfl, hbl⟩ := RB.out _ r5 (by omega)
      have a1 : ¬ n1 ≤ la := by omega
      have a2 : (0 : Int) < n1 := by omega
      have a3 : ¬ bp ≤ n1 := by omega
      clear R2 R3 R4 R5 HLA r5 hlt1 hbl hla
      obtain rfl : tb = false := by rw [HTB.out]; exact decide_eq_false hnt
      clear hnt HTB
      go_wp2_with (refine loadX (.tmp 8) d (storC z q) tyStore rfl D.out rfl rfl rfl ?_)
      refine (DR.out z _).mono ?_
      rintro e w3 ⟨rfl, hb⟩
      have nHB := Lib.hid (belG HB.out hb HB.out.size)
      have nRZ := Lib.hid (RZ.out.go hb)
      have nD := Lib.hid (Bx.go D.out hb)
      have nS := Lib.hid (Bx.go S.out hb)
      clear hb
      clear HB RZ D S
      have HB := nHB
      have RZ := nRZ
      have D := nD
      have S := nS
      clear nHB nRZ nD nS
      go_wp2_with (refine loadX (.tmp 8) d (storC z q) tyStore rfl D.out rfl rfl rfl ?_)
      refine (DB.out z _ (HT.out.below HB.out HT.out.1) RZ.out).mono ?_
      rintro e w4 ⟨rfl, hb⟩
      have nHB := Lib.hid (belG HB.out hb HB.out.size)
      have nRZ := Lib.hid (RZ.out.go hb)
      have nD := Lib.hid (Bx.go D.out hb)
      have nS := Lib.hid (Bx.go S.out hb)
      clear hb
      clear HB RZ D S
      have HB := nHB
      have RZ := nRZ
      have D := nD
      have S := nS
      clear nHB nRZ nD nS
      go_upto_region 7 with (first | (refine loadX (.tmp 8) d (storC z q) tyStore rfl D.out rfl rfl rfl ?_) | (refine storeX (.tmp 2) (.tmp 104) W.heap.size (storC z q) _ tyStore rfl (storC_one _ _) S.out rfl rfl rfl rfl rfl ?_))
      obtain ⟨V5, hV5⟩ : ∃ V, V = w4.setRow W.heap.size (storC z q) := ⟨_, rfl⟩
      have nHB := Lib.hid (show Below W.heap.size W V5 by rw [hV5]; exact Below.setRowG HB.out LES.out _)
      have hq := RZ.out.setRow (C' := (storC z q)) S.out (no8_stor _ _)
      rw [← hV5] at hq
      have nRZ := Lib.hid hq
      clear hq
      have nD := Lib.hid (show Bx V5 d 24 (storC z q) from by rw [hV5]; exact Bx.setRowOther D.out NEDS.out _)
      have nS := Lib.hid (show Bx V5 W.heap.size 24 (storC z q) from by rw [hV5]; exact Bx.setRow S.out _)
      rw [← hV5]
      clear hV5
      clear HB RZ D S
      have HB := nHB
      have RZ := nRZ
      have D := nD
      have S := nS
      clear nHB nRZ nD nS
      go_wp2_with fail
      go_roundw
      case rel => exact ⟨i + 1, q, z, n1, by omega, by go_num, by go_num, Lib.hid hrise, S, RZ, HB⟩
      case measure => simp [intOf]; omega
    by_cases hm11 : m1 = 11
    · subst hm11
      clear hm0
      obtain rfl := R3.out (by decide)
      have ht := R4.out rfl
      have r5 := R5.out
      have hla := HLA.out
      rw [if_neg (by decide)] at r5
      clear R2 R3 R4 R5 HLA
      by_cases hlp : 0 < la
      · obtain ⟨rfl, hbl⟩ := RB.out _ r5 hlp
        have hrise := r5
        have a2 : (0 : Int) < la := hlp
        have a3 : ¬ bp ≤ la := by omega
        clear r5 hlp hbl hla
        obtain rfl : tb = true := by rw [HTB.out]; exact decide_eq_true ht
        clear ht HTB
        go_wp2_with (refine loadX (.tmp 8) d (storC z q) tyStore rfl D.out rfl rfl rfl ?_)
        refine (DR.out z _).mono ?_
        rintro e w3 ⟨rfl, hb⟩
        have nHB := Lib.hid (belG HB.out hb HB.out.size)
        have nRZ := Lib.hid (RZ.out.go hb)
        have nD := Lib.hid (Bx.go D.out hb)
        have nS := Lib.hid (Bx.go S.out hb)
        clear hb
        clear HB RZ D S
        have HB := nHB
        have RZ := nRZ
        have D := nD
        have S := nS
        clear nHB nRZ nD nS
        go_wp2_with (refine loadX (.tmp 8) d (storC z q) tyStore rfl D.out rfl rfl rfl ?_)
        refine (DB.out z _ (HT.out.below HB.out HT.out.1) RZ.out).mono ?_
        rintro e w4 ⟨rfl, hb⟩
        have nHB := Lib.hid (belG HB.out hb HB.out.size)
        have nRZ := Lib.hid (RZ.out.go hb)
        have nD := Lib.hid (Bx.go D.out hb)
        have nS := Lib.hid (Bx.go S.out hb)
        clear hb
        clear HB RZ D S
        have HB := nHB
        have RZ := nRZ
        have D := nD
        have S := nS
        clear nHB nRZ nD nS
        go_upto_region 7 with (first | (refine loadX (.tmp 8) d (storC z q) tyStore rfl D.out rfl rfl rfl ?_) | (refine storeX (.tmp 2) (.tmp 104) W.heap.size (storC z q) _ tyStore rfl (storC_one _ _) S.out rfl rfl rfl rfl rfl ?_))
        obtain ⟨V5, hV5⟩ : ∃ V, V = w4.setRow W.heap.size (storC z q) := ⟨_, rfl⟩
        have nHB := Lib.hid (show Below W.heap.size W V5 by rw [hV5]; exact Below.setRowG HB.out LES.out _)
        have hq := RZ.out.setRow (C' := (storC z q)) S.out (no8_stor _ _)
        rw [← hV5] at hq
        have nRZ := Lib.hid hq
        clear hq
        have nD := Lib.hid (show Bx V5 d 24 (storC z q) from by rw [hV5]; exact Bx.setRowOther D.out NEDS.out _)
        have nS := Lib.hid (show Bx V5 W.heap.size 24 (storC z q) from by rw [hV5]; exact Bx.setRow S.out _)
        rw [← hV5]
        clear hV5
        clear HB RZ D S
        have HB := nHB
        have RZ := nRZ
        have D := nD
        have S := nS
        clear nHB nRZ nD nS
        go_wp2_with fail
        go_roundw
        case rel => exact ⟨i + 1, q, z, la, by omega, by go_num, by go_num, Lib.hid hrise, S, RZ, HB⟩
        case measure => simp [intOf]; omega
      · have hrise := r5
        have a2 : ¬ (0 : Int) < la := hlp
        clear r5 hlp hla
        obtain rfl : tb = true := by rw [HTB.out]; exact decide_eq_true ht
        clear ht HTB
        go_wp2_with (refine loadX (.tmp 8) d (storC z q) tyStore rfl D.out rfl rfl rfl ?_)
        refine (DR.out z _).mono ?_
        rintro e w3 ⟨rfl, hb⟩
        have nHB := Lib.hid (belG HB.out hb HB.out.size)
        have nRZ := Lib.hid (RZ.out.go hb)
        have nD := Lib.hid (Bx.go D.out hb)
        have nS := Lib.hid (Bx.go S.out hb)
        clear hb
        clear HB RZ D S
        have HB := nHB
        have RZ := nRZ
        have D := nD
        have S := nS
        clear nHB nRZ nD nS
        go_wp2_with (refine loadX (.tmp 8) d (storC z q) tyStore rfl D.out rfl rfl rfl ?_)
        refine (DB.out z _ (HT.out.below HB.out HT.out.1) RZ.out).mono ?_
        rintro e w4 ⟨rfl, hb⟩
        have nHB := Lib.hid (belG HB.out hb HB.out.size)
        have nRZ := Lib.hid (RZ.out.go hb)
        have nD := Lib.hid (Bx.go D.out hb)
        have nS := Lib.hid (Bx.go S.out hb)
        clear hb
        clear HB RZ D S
        have HB := nHB
        have RZ := nRZ
        have D := nD
        have S := nS
        clear nHB nRZ nD nS
        go_upto_region 7 with (first | (refine loadX (.tmp 8) d (storC z q) tyStore rfl D.out rfl rfl rfl ?_) | (refine storeX (.tmp 2) (.tmp 104) W.heap.size (storC z q) _ tyStore rfl (storC_one _ _) S.out rfl rfl rfl rfl rfl ?_))
        obtain ⟨V5, hV5⟩ : ∃ V, V = w4.setRow W.heap.size (storC z q) := ⟨_, rfl⟩
        have nHB := Lib.hid (show Below W.heap.size W V5 by rw [hV5]; exact Below.setRowG HB.out LES.out _)
        have hq := RZ.out.setRow (C' := (storC z q)) S.out (no8_stor _ _)
        rw [← hV5] at hq
        have nRZ := Lib.hid hq
        clear hq
        have nD := Lib.hid (show Bx V5 d 24 (storC z q) from by rw [hV5]; exact Bx.setRowOther D.out NEDS.out _)
        have nS := Lib.hid (show Bx V5 W.heap.size 24 (storC z q) from by rw [hV5]; exact Bx.setRow S.out _)
        rw [← hV5]
        clear hV5
        clear HB RZ D S
        have HB := nHB
        have RZ := nRZ
        have D := nD
        have S := nS
        clear nHB nRZ nD nS
        go_wp2_with fail
        go_roundw
        case rel => exact ⟨i + 1, q, z, la, by omega, by go_num, by go_num, Lib.hid hrise, S, RZ, HB⟩
        case measure => simp [intOf]; omega
    obtain rfl := R3.out hm0
    have r5 := R5.out
    have hla := HLA.out
    rw [if_neg hm0] at r5
    have e1 : (m1 == 0) = false := beq_eq_false_iff_ne.2 hm0
    have e2 : (m1 != 0) = true := by rw [bne, e1]; rfl
    have e3 : (m1 == 11) = false := beq_eq_false_iff_ne.2 hm11
    clear R2 R3 R4 R5 HLA hm0 hm11
    by_cases hlp : 0 < la
    · obtain ⟨rfl, hbl⟩ := RB.out _ r5 hlp
      have hrise := r5
      have a2 : (0 : Int) < la := hlp
      have a3 : ¬ bp ≤ la := by omega
      clear r5 hlp hbl hla
      clear HTB
      go_wp2_with (refine loadX (.tmp 8) d (storC z q) tyStore rfl D.out rfl rfl rfl ?_)
      refine (DR.out z _).mono ?_
      rintro e w3 ⟨rfl, hb⟩
      have nHB := Lib.hid (belG HB.out hb HB.out.size)
      have nRZ := Lib.hid (RZ.out.go hb)
      have nD := Lib.hid (Bx.go D.out hb)
      have nS := Lib.hid (Bx.go S.out hb)
      clear hb
      clear HB RZ D S
      have HB := nHB
      have RZ := nRZ
      have D := nD
      have S := nS
      clear nHB nRZ nD nS
      go_wp2_with (refine loadX (.tmp 8) d (storC z q) tyStore rfl D.out rfl rfl rfl ?_)
      refine (DB.out z _ (HT.out.below HB.out HT.out.1) RZ.out).mono ?_
      rintro e w4 ⟨rfl, hb⟩
      have nHB := Lib.hid (belG HB.out hb HB.out.size)
      have nRZ := Lib.hid (RZ.out.go hb)
      have nD := Lib.hid (Bx.go D.out hb)
      have nS := Lib.hid (Bx.go S.out hb)
      clear hb
      clear HB RZ D S
      have HB := nHB
      have RZ := nRZ
      have D := nD
      have S := nS
      clear nHB nRZ nD nS
      go_upto_region 7 with (first | (refine loadX (.tmp 8) d (storC z q) tyStore rfl D.out rfl rfl rfl ?_) | (refine storeX (.tmp 2) (.tmp 104) W.heap.size (storC z q) _ tyStore rfl (storC_one _ _) S.out rfl rfl rfl rfl rfl ?_))
      obtain ⟨V5, hV5⟩ : ∃ V, V = w4.setRow W.heap.size (storC z q) := ⟨_, rfl⟩
      have nHB := Lib.hid (show Below W.heap.size W V5 by rw [hV5]; exact Below.setRowG HB.out LES.out _)
      have hq := RZ.out.setRow (C' := (storC z q)) S.out (no8_stor _ _)
      rw [← hV5] at hq
      have nRZ := Lib.hid hq
      clear hq
      have nD := Lib.hid (show Bx V5 d 24 (storC z q) from by rw [hV5]; exact Bx.setRowOther D.out NEDS.out _)
      have nS := Lib.hid (show Bx V5 W.heap.size 24 (storC z q) from by rw [hV5]; exact Bx.setRow S.out _)
      rw [← hV5]
      clear hV5
      clear HB RZ D S
      have HB := nHB
      have RZ := nRZ
      have D := nD
      have S := nS
      clear nHB nRZ nD nS
      go_wp2_with fail
      go_roundw
      case rel => exact ⟨i + 1, q, z, la, by omega, by go_num, by go_num, Lib.hid hrise, S, RZ, HB⟩
      case measure => simp [intOf]; omega
    · have hrise := r5
      have a2 : ¬ (0 : Int) < la := hlp
      clear r5 hlp hla
      clear HTB
      go_wp2_with (refine loadX (.tmp 8) d (storC z q) tyStore rfl D.out rfl rfl rfl ?_)
      refine (DR.out z _).mono ?_
      rintro e w3 ⟨rfl, hb⟩
      have nHB := Lib.hid (belG HB.out hb HB.out.size)
      have nRZ := Lib.hid (RZ.out.go hb)
      have nD := Lib.hid (Bx.go D.out hb)
      have nS := Lib.hid (Bx.go S.out hb)
      clear hb
      clear HB RZ D S
      have HB := nHB
      have RZ := nRZ
      have D := nD
      have S := nS
      clear nHB nRZ nD nS
      go_wp2_with (refine loadX (.tmp 8) d (storC z q) tyStore rfl D.out rfl rfl rfl ?_)
      refine (DB.out z _ (HT.out.below HB.out HT.out.1) RZ.out).mono ?_
      rintro e w4 ⟨rfl, hb⟩
      have nHB := Lib.hid (belG HB.out hb HB.out.size)
      have nRZ := Lib.hid (RZ.out.go hb)
      have nD := Lib.hid (Bx.go D.out hb)
      have nS := Lib.hid (Bx.go S.out hb)
      clear hb
      clear HB RZ D S
      have HB := nHB
      have RZ := nRZ
      have D := nD
      have S := nS
      clear nHB nRZ nD nS
      go_upto_region 7 with (first | (refine loadX (.tmp 8) d (storC z q) tyStore rfl D.out rfl rfl rfl ?_) | (refine storeX (.tmp 2) (.tmp 104) W.heap.size (storC z q) _ tyStore rfl (storC_one _ _) S.out rfl rfl rfl rfl rfl ?_))
      obtain ⟨V5, hV5⟩ : ∃ V, V = w4.setRow W.heap.size (storC z q) := ⟨_, rfl⟩
      have nHB := Lib.hid (show Below W.heap.size W V5 by rw [hV5]; exact Below.setRowG HB.out LES.out _)
      have hq := RZ.out.setRow (C' := (storC z q)) S.out (no8_stor _ _)
      rw [← hV5] at hq
      have nRZ := Lib.hid hq
      clear hq
      have nD := Lib.hid (show Bx V5 d 24 (storC z q) from by rw [hV5]; exact Bx.setRowOther D.out NEDS.out _)
      have nS := Lib.hid (show Bx V5 W.heap.size 24 (storC z q) from by rw [hV5]; exact Bx.setRow S.out _)
      rw [← hV5]
      clear hV5
      clear HB RZ D S
      have HB := nHB
      have RZ := nRZ
      have D := nD
      have S := nS
      clear nHB nRZ nD nS
      go_wp2_with fail
      go_roundw
      case rel => exact ⟨i + 1, q, z, la, by omega, by go_num, by go_num, Lib.hid hrise, S, RZ, HB⟩
      case measure => simp [intOf]; omega
  · have hiI : ¬ (i : Int) < (n : Int) := by omega
    go_wp2_with fail
    go_ret
    exact ⟨rfl, HB.out⟩
set_option maxRecDepth 100000 in
theorem slotRises_walkI (x : Wt) (s : Sr) (A : Option Addr) (l : List Int) (c : Nat) (W : World) (hx : StR W x s) (_h1 : l.length ≤ c) (_h2 : c ≤ 9223372036854775807) (hz : I64s l) (hr : RdI W W.heap.size A l) (hT : Ks W) :
    Calls Tryd.prog 4 #[.agg (storC x s), .slice A l.length c] W fun e W' => e = .returned (.bool true) ∧ Below W.heap.size W W' := slotRises_walk x s A l c W hx hz hr hT
end Go.Proofs.YtfppcmhhbheaiaaDoor
