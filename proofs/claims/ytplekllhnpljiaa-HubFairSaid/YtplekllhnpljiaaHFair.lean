
/- HubFair's walk. -/
import Derived.Test.YtplekllhnpljiaaJ29
import Derived.Test.YtplekllhnpljiaaJ30
namespace Go.Proofs.Ytplekllhnpljiaa
open Go.RowKit

/-- from the world wr on nothing of it has changed -/
def BelN (wr w : World) : Prop := Below wr.heap.size wr w
set_option maxRecDepth 100000 in
theorem BelN.below {wr w w' : World} (h : BelN wr w) (hb : Below w.heap.size w w') (_ : w.heap.size ≤ w.heap.size) : BelN wr w' := belG h hb h.size
set_option maxRecDepth 100000 in
theorem BelN.more {wr w : World} {n : Nat} (h : BelN wr w) (_ : n ≤ w.heap.size) : BelN wr w := h
/-- the picks, as cells -/
def csP (u : Nat → Bool) (n i : Nat) : List Value := (List.range i).map fun j => .int .i64 ((pkH u n j : Nat) : Int)
set_option maxRecDepth 100000 in
theorem csP_len (u : Nat → Bool) (n i : Nat) : (csP u n i).length = i := by simp [csP]
set_option maxRecDepth 100000 in
theorem csP_get (u : Nat → Bool) (n : Nat) {i j : Nat} (h : j < i) : (csP u n i)[j]? = some (.int .i64 ((pkH u n j : Nat) : Int)) := by
  unfold csP
  rw [List.getElem?_map, List.getElem?_range h]
  rfl
set_option maxRecDepth 100000 in
theorem csP_succ (u : Nat → Bool) (n i : Nat) : csP u n (i + 1) = csP u n i ++ [.int .i64 ((pkH u n i : Nat) : Int)] := by
  unfold csP
  rw [List.range_succ, List.map_append]
  rfl
set_option maxRecDepth 100000 in
theorem OwN.cells {w : World} {base : Nat} {A : Option Addr} {n c : Nat} {us : List Value} (h : OwN w base (.slice A n c) us) (h0 : 0 < us.length) : ∃ g, A = some ⟨g, 0, none⟩ ∧ base ≤ g ∧ g < w.heap.size ∧ ∀ j v, us[j]? = some v → w.cell? ⟨g, j, none⟩ = some v := by
  have ho := h.owns
  rcases h with ⟨e, rfl⟩ | ⟨g, cap, cur, e, h1, h2, h3, h4, h5, h6, -⟩
  · simp at h0
  · cases e
    refine ⟨g, rfl, h1, (Array.getElem?_eq_some_iff.1 h2).1, fun j v hv => ?_⟩
    have := World.ownsRow.cells ho (g := g) rfl j v hv
    rw [Addr.add_lit, Nat.zero_add] at this
    exact this
set_option maxRecDepth 100000 in
theorem OwN.keepH {w w' : World} {base g : Nat} {v : Value} {us : List Value} {x : Wh} {h : Hb} (k : OwN w base v us) (hg : BoxH w g x h) (hO : OnlyH w w' g) : OwN w' base v us := by
  have hne := ownsRow_ne k.owns hg (by decide)
  rcases k with h0 | ⟨g', cap, cur, rfl, h1, hg', h2⟩
  · exact .inl h0
  · exact .inr ⟨g', cap, cur, rfl, h1, (hO.1 g' (fun e => hne (by simp [Value.ownBlock, e]))).trans hg', h2⟩
set_option maxRecDepth 100000 in
theorem OwN.boxH {w w' : World} {base g : Nat} {v : Value} {us : List Value} {x : Wh} {h : Hb} (k : OwN w base v us) (hg : BoxH w g x h) (hgr : w.grownBy w' v.ownBlock) : BoxH w' g x h :=
  (hgr.block g (Array.getElem?_eq_some_iff.1 hg).1 (fun e => ownsRow_ne k.owns hg (by decide) e.symm)).trans hg
set_option maxRecDepth 100000 in
set_option maxHeartbeats 4000000 in
theorem hubFair_walk (x : Wh) (h : Hb) (W : World) (hl : Hb64 h) (hr : HubR W x h) :
    Calls Try.prog 5 #[.agg (hubC x h)] W fun e W' => e = .returned (.bool true) ∧ Below W.heap.size W W' := by
  have R0 := Lib.hid hr
  have HL := Lib.hid hl
  have CF := Lib.hid (fun w => refFew_any x h w)
  have CR := Lib.hid (fun w (hB : Below W.heap.size W w) (r0 : HubR w x h) => refRight9_any x h w r0)
  by_cases h1 : fewH h
  case neg =>
    rw [decide_eq_false h1] at CF
    clear hl hr
    obtain ⟨V0, C, hC, hV, hb, hg⟩ := boxH1 W x h
    have HB := Lib.hid hb
    have G0 := Lib.hid hg
    have nR0 := Lib.hid ((R0.out.below hb (Nat.le_refl _)).more hb.size)
    have HV := Lib.hid hV
    rw [← hC]
    clear hb hg hV hC
    clear R0
    have R0 := nR0
    clear nR0
    go_enter Try.func5, Try.ntmps5
    go_upto_region 1 with (fail)
    rw [← HV.out]
    clear HV
    go_wp2_with fail
    refine (shown9_any _).mono ?_
    rintro e w2 ⟨rfl, hb⟩
    have nHB := Lib.hid (belG HB.out hb HB.out.size)
    have nR0 := Lib.hid ((R0.out.below hb (Nat.le_refl _)).more hb.size)
    have nG0 := Lib.hid (oldG G0.out hb (Nat.le_refl _))
    clear hb
    clear HB R0 G0
    have HB := nHB
    have R0 := nR0
    have G0 := nG0
    clear nHB nR0 nG0
    go_wp2_with (first | (refine loadHb _ (.tmp 1) W.heap.size x h G0.out rfl rfl rfl ?_))
    refine (CF.out _).mono ?_
    rintro e w3 ⟨rfl, hb⟩
    have nHB := Lib.hid (belG HB.out hb HB.out.size)
    have nR0 := Lib.hid ((R0.out.below hb (Nat.le_refl _)).more hb.size)
    have nG0 := Lib.hid (oldG G0.out hb (Nat.le_refl _))
    clear hb
    clear HB R0 G0
    have HB := nHB
    have R0 := nR0
    have G0 := nG0
    clear nHB nR0 nG0
    go_wp2_with (first | (refine loadHb _ (.tmp 1) W.heap.size x h G0.out rfl rfl rfl ?_))
    go_ret
    exact ⟨rfl, HB.out⟩
  rw [decide_eq_true h1] at CF
  by_cases hR : RightHb h
  case neg =>
    rw [decide_eq_false hR] at CR
    clear hl hr
    obtain ⟨V0, C, hC, hV, hb, hg⟩ := boxH1 W x h
    have HB := Lib.hid hb
    have G0 := Lib.hid hg
    have nR0 := Lib.hid ((R0.out.below hb (Nat.le_refl _)).more hb.size)
    have HV := Lib.hid hV
    rw [← hC]
    clear hb hg hV hC
    clear R0
    have R0 := nR0
    clear nR0
    go_enter Try.func5, Try.ntmps5
    go_upto_region 1 with (fail)
    rw [← HV.out]
    clear HV
    go_wp2_with fail
    refine (shown9_any _).mono ?_
    rintro e w2 ⟨rfl, hb⟩
    have nHB := Lib.hid (belG HB.out hb HB.out.size)
    have nR0 := Lib.hid ((R0.out.below hb (Nat.le_refl _)).more hb.size)
    have nG0 := Lib.hid (oldG G0.out hb (Nat.le_refl _))
    clear hb
    clear HB R0 G0
    have HB := nHB
    have R0 := nR0
    have G0 := nG0
    clear nHB nR0 nG0
    go_wp2_with (first | (refine loadHb _ (.tmp 1) W.heap.size x h G0.out rfl rfl rfl ?_))
    refine (CF.out _).mono ?_
    rintro e w3 ⟨rfl, hb⟩
    have nHB := Lib.hid (belG HB.out hb HB.out.size)
    have nR0 := Lib.hid ((R0.out.below hb (Nat.le_refl _)).more hb.size)
    have nG0 := Lib.hid (oldG G0.out hb (Nat.le_refl _))
    clear hb
    clear HB R0 G0
    have HB := nHB
    have R0 := nR0
    have G0 := nG0
    clear nHB nR0 nG0
    go_wp2_with (first | (refine loadHb _ (.tmp 1) W.heap.size x h G0.out rfl rfl rfl ?_))
    refine (CR.out _ HB.out R0.out).mono ?_
    rintro e w4 ⟨rfl, hb⟩
    have nHB := Lib.hid (belG HB.out hb HB.out.size)
    have nR0 := Lib.hid ((R0.out.below hb (Nat.le_refl _)).more hb.size)
    have nG0 := Lib.hid (oldG G0.out hb (Nat.le_refl _))
    clear hb
    clear HB R0 G0
    have HB := nHB
    have R0 := nR0
    have G0 := nG0
    clear nHB nR0 nG0
    go_wp2_with (first | (refine loadHb _ (.tmp 1) W.heap.size x h G0.out rfl rfl rfl ?_))
    go_ret
    exact ⟨rfl, HB.out⟩
  rw [decide_eq_true hR] at CR
  have HRT := Lib.hid hR
  have RB := Lib.hid (fun w (hb : Below W.heap.size W w) => hr.go hb)
  obtain ⟨n0, hn0⟩ : ∃ n : Nat, n = h.next.toNat := ⟨_, rfl⟩
  have HN0 := Lib.hid hn0
  have hn4 : n0 < 4 := by have := hR.2; omega
  obtain ⟨N, hN⟩ : ∃ N, N = cntH h.up 4 := ⟨_, rfl⟩
  have HNN := Lib.hid hN
  have hN4 : N ≤ 4 := by rw [hN]; exact cntH_le h.up 4
  clear hl hr h1 hR hn0 hN
  obtain ⟨V0, C, hC, hV, hb, hg⟩ := boxH1 W x h
  have HB := Lib.hid hb
  have G0 := Lib.hid hg
  have nR0 := Lib.hid ((R0.out.below hb (Nat.le_refl _)).more hb.size)
  have HV := Lib.hid hV
  rw [← hC]
  clear hb hg hV hC
  clear R0
  have R0 := nR0
  clear nR0
  go_enter Try.func5, Try.ntmps5
  go_upto_region 1 with (fail)
  rw [← HV.out]
  clear HV
  go_wp2_with fail
  refine (shown9_any _).mono ?_
  rintro e w2 ⟨rfl, hb⟩
  have nHB := Lib.hid (belG HB.out hb HB.out.size)
  have nR0 := Lib.hid ((R0.out.below hb (Nat.le_refl _)).more hb.size)
  have nG0 := Lib.hid (oldG G0.out hb (Nat.le_refl _))
  clear hb
  clear HB R0 G0
  have HB := nHB
  have R0 := nR0
  have G0 := nG0
  clear nHB nR0 nG0
  go_wp2_with (first | (refine loadHb _ (.tmp 1) W.heap.size x h G0.out rfl rfl rfl ?_))
  refine (CF.out _).mono ?_
  rintro e w3 ⟨rfl, hb⟩
  have nHB := Lib.hid (belG HB.out hb HB.out.size)
  have nR0 := Lib.hid ((R0.out.below hb (Nat.le_refl _)).more hb.size)
  have nG0 := Lib.hid (oldG G0.out hb (Nat.le_refl _))
  clear hb
  clear HB R0 G0
  have HB := nHB
  have R0 := nR0
  have G0 := nG0
  clear nHB nR0 nG0
  go_wp2_with (first | (refine loadHb _ (.tmp 1) W.heap.size x h G0.out rfl rfl rfl ?_))
  refine (CR.out _ HB.out R0.out).mono ?_
  rintro e w4 ⟨rfl, hb⟩
  have nHB := Lib.hid (belG HB.out hb HB.out.size)
  have nR0 := Lib.hid ((R0.out.below hb (Nat.le_refl _)).more hb.size)
  have nG0 := Lib.hid (oldG G0.out hb (Nat.le_refl _))
  clear hb
  clear HB R0 G0
  have HB := nHB
  have R0 := nR0
  have G0 := nG0
  clear nHB nR0 nG0
  go_wp2_with (first | (refine loadHb _ (.tmp 1) W.heap.size x h G0.out rfl rfl rfl ?_))
  go_loop [4, 5] (fun s i => ∃ k : Nat, k ≤ 4 ∧ s = .int .i64 (cntH h.up k : Nat) ∧ i = .int .i64 k) (fun _ i => 4 - (intOf i).toNat)
  case atStart => exact ⟨0, Nat.zero_le _, rfl, rfl⟩
  case round =>
    obtain ⟨k, hk, rfl, rfl⟩ := hrel
    by_cases hlt : k < 4
    · have hki : (k : Int) < 4 := by omega
      have hk0 : (0 : Int) ≤ (k : Int) := Int.natCast_nonneg _
      have x0 := BoxH.cell G0.out (hubC_up x h hlt)
      have hcl := cntH_le h.up k
      cases hu : h.up k with
      | true =>
        have HC := Lib.hid (show ((cntH h.up k : Nat) : Int) + 1 = ((cntH h.up (k + 1) : Nat) : Int) by show _ = ((cntH h.up k + (if h.up k = true then 1 else 0) : Nat) : Int); rw [if_pos hu]; push_cast; rfl)
        rw [hu] at x0
        have hci : ((cntH h.up k : Nat) : Int) ≤ 4 := by omega
        clear hu hcl
        generalize cntH h.up k = q at *
        go_wp2
        go_round
        case rel => exact ⟨k + 1, by omega, by rw [← HC.out], by go_num⟩
        case measure => simp [intOf]; omega
      | false =>
        have HC := Lib.hid (show ((cntH h.up k : Nat) : Int) = ((cntH h.up (k + 1) : Nat) : Int) by show _ = ((cntH h.up k + (if h.up k = true then 1 else 0) : Nat) : Int); rw [if_neg (by rw [hu]; decide)]; rfl)
        rw [hu] at x0
        clear hu hcl
        generalize cntH h.up k = q at *
        go_wp2
        go_round
        case rel => exact ⟨k + 1, by omega, by rw [← HC.out], by go_num⟩
        case measure => simp [intOf]; omega
    · have hki : ¬ (k : Int) < 4 := by omega
      have hk4 : k = 4 := by omega
      subst hk4
      rw [← HNN.out]
      have HNI := Lib.hid hN4
      go_upto_region 11 with (fail)
      obtain ⟨Vf, hVf⟩ : ∃ Z, Z = w4.alloc (.cells #[] 3) := ⟨_, rfl⟩
      have hbf : Below w4.heap.size w4 Vf := by rw [hVf]; exact (Below.refl _ _).alloc (Nat.le_refl _) _
      have HOF := Lib.hid (show OwN Vf w4.heap.size (.slice (some ⟨w4.heap.size, 0, none⟩) 0 0) [] by rw [hVf]; exact OwN.made0 w4 (Nat.le_refl _))
      have HLA := Lib.hid HB.out.size
      have HSA := Lib.hid (show w4.heap.size ≤ Vf.heap.size from hbf.size)
      have nHB := Lib.hid (belG HB.out hbf HB.out.size)
      have nR0 := Lib.hid ((R0.out.below hbf (Nat.le_refl _)).more hbf.size)
      have nG0 := Lib.hid (oldG G0.out hbf (Nat.le_refl _))
      rw [← hVf]
      clear hVf hbf
      clear HB R0 G0
      have HB := nHB
      have R0 := nR0
      have G0 := nG0
      clear nHB nR0 nG0
      have BW := Lib.hid (show BelN Vf Vf from Below.refl _ _)
      have G0P := G0
      have LB := Lib.hid HB.out.size
      have LTG0 := Lib.hid (show W.heap.size < Vf.heap.size from (Array.getElem?_eq_some_iff.1 G0.out).1)
      obtain ⟨V30, hV30⟩ : ∃ V, V = Vf.alloc (.cells (hubC x h) 29) := ⟨_, rfl⟩
      have ha := (Below.refl Vf.heap.size Vf).alloc (Nat.le_refl _) (.cells (hubC x h) 29)
      have hg := heap_alloc_new Vf (.cells (hubC x h) 29)
      have nHB := Lib.hid (HB.out.alloc HB.out.size (.cells (hubC x h) 29))
      rw [← hV30] at ha hg nHB
      have nR0 := Lib.hid ((R0.out.below ha (Nat.le_refl _)).more ha.size)
      have nBW := Lib.hid ((BW.out.below ha (Nat.le_refl _)).more ha.size)
      have nG0 := Lib.hid (oldG G0.out ha (Nat.le_refl _))
      obtain ⟨g7, hg7⟩ : ∃ g, g = Vf.heap.size := ⟨_, rfl⟩
      rw [← hg7] at hg
      have HXG7 := Lib.hid hg7
      have G7 := Lib.hid hg
      have HV := Lib.hid hV30
      clear ha hg hV30 hg7
      clear HB R0 BW G0
      have HB := nHB
      have R0 := nR0
      have BW := nBW
      have G0 := nG0
      clear nHB nR0 nBW nG0
      have LEG7 := Lib.hid (show W.heap.size ≤ g7 from by rw [HXG7.out]; exact LB.out)
      have NEG0G7 := Lib.hid (show W.heap.size ≠ g7 from by have h1 := LTG0.out; rw [HXG7.out]; omega)
      have NEG7G0 := Lib.hid (NEG0G7.out.symm)
      clear LB LTG0
      go_upto_region 12 with (first | (refine loadHb _ (.tmp 1) W.heap.size x h G0P.out rfl rfl rfl ?_) | (refine storeHb _ (.tmp 7) (.tmp 37) _ x h _ (heap_alloc_new _ _) rfl rfl rfl rfl rfl ?_; rw [setRowG_fold]))
      rw [← HV.out]
      (try rw [← HXG7.out])
      clear HV HXG7
      have HO7 := Lib.hid (OwN.call HOF.out BW.out)
      have HS7 := Lib.hid (Nat.le_trans HSA.out BW.out.size)
      clear G0P HOF HSA BW
      obtain ⟨a, ha⟩ : ∃ a, a = w4.heap.size := ⟨_, rfl⟩
      rw [← ha] at HO7 HLA HS7 ⊢
      clear ha
      have hNi : (N : Int) ≤ 4 := by omega
      have hNj : (0 : Int) ≤ (N : Int) := by omega
      have HI0 := Lib.hid (hubI_0 HRT.out.2)
      go_wp2_with fail
      go_loopw [8, 6] (fun i vf wr => ∃ (i' : Nat) (xw : Wh), i' ≤ 2 * N ∧ i = .int .i64 i' ∧ Hid (OwN wr a vf (csP h.up n0 i')) ∧ Hid (BoxH wr g7 xw (hubI h i')) ∧ Hid (HubR wr xw (hubI h i')) ∧ Hid (BoxH wr W.heap.size x h) ∧ Hid (Below W.heap.size W wr) ∧ Hid (a ≤ wr.heap.size)) (fun i _ _ => 2 * N - (intOf i).toNat)
      case atStart => exact ⟨0, x, Nat.zero_le _, rfl, HO7, Lib.hid (by rw [HI0.out]; exact G7.out), Lib.hid (by rw [HI0.out]; exact R0.out), G0, HB, HS7⟩
      case round =>
        clear HO7 G7 R0 G0 HB HS7 HI0
        obtain ⟨i, xw, hi, rfl, HOW, G7, R7, G0, HB, HSW⟩ := hrel
        by_cases hlt2 : i < 2 * N
        · have hii : (i : Int) < 2 * (N : Int) := by omega
          have hi0 : (0 : Int) ≤ (i : Int) := Int.natCast_nonneg _
          have hany : anyH h = true := (cntH_any h).1 (by rw [← HNN.out]; omega)
          have HANY := Lib.hid hany
          obtain ⟨p, hp⟩ : ∃ p, p = pkH h.up n0 i := ⟨_, rfl⟩
          have hpu : p < 4 ∧ h.up p = true := by rw [hp, HN0.out]; exact pkH_up hany HRT.out i
          have CP := Lib.hid (fun w (r7 : HubR w xw (hubI h i)) => (show Calls Try.prog 14 #[.agg (hubC xw (hubI h i))] w fun e W' => AnsPk W' e (hubI h (i + 1), ((p : Nat) : Int), 0) ∧ Below w.heap.size w W' from by
            have h9 := hPick_any xw (hubI h i) w (hubI_right HRT.out i) (hubI_64 HL.out HRT.out i) r7
            rw [hubI_pick hany i, ← HN0.out, ← hp] at h9
            exact h9))
          have CQ := Lib.hid (fun (y : Wh) w (r7 : HubR w y (hubI h (i + 1))) => (show Calls Try.prog 10 #[.agg (hubC y (hubI h (i + 1)))] w fun e W' => e = .returned (.bool true) ∧ Below w.heap.size w W' from by
            have h9 := refRight9_any y (hubI h (i + 1)) w r7
            rw [decide_eq_true (hubI_right HRT.out (i + 1))] at h9
            exact h9))
          unfold AnsPk at CP
          have HPK := Lib.hid hp
          have HUP := Lib.hid ((hubC_up x h hpu.1).trans (by rw [hpu.2]))
          have hp4 : (p : Int) < 4 := by have := hpu.1; omega
          have hp5 : ¬ (4 : Int) ≤ (p : Int) := by omega
          have hp0 : (0 : Int) ≤ (p : Int) := Int.natCast_nonneg _
          have hp6 : ¬ (p : Int) < 0 := by omega
          have hd5 : decide ((4 : Int) ≤ (p : Int)) = false := decide_eq_false hp5
          have hd6 : decide ((p : Int) < 0) = false := decide_eq_false hp6
          have HP4 := Lib.hid hpu.1
          clear hp hpu hany
          have BW := Lib.hid (show BelN wr wr from Below.refl _ _)
          go_wp2_with (first | (refine loadHb _ (.tmp 1) W.heap.size x h G0.out rfl rfl rfl ?_) | (refine loadHb _ (.tmp 7) g7 xw (hubI h i) G7.out rfl rfl rfl ?_))
          refine (CP.out _ R7.out).mono ?_
          rintro e w51 ⟨⟨x9, rfl, k9⟩, hb⟩
          have nHB := Lib.hid (belG HB.out hb HB.out.size)
          have nR7 := Lib.hid ((R7.out.below hb (Nat.le_refl _)).more hb.size)
          have nBW := Lib.hid ((BW.out.below hb (Nat.le_refl _)).more hb.size)
          have nG0 := Lib.hid (oldG G0.out hb (Nat.le_refl _))
          have nG7 := Lib.hid (oldG G7.out hb (Nat.le_refl _))
          clear hb
          clear HB R7 BW G0 G7
          have HB := nHB
          have R7 := nR7
          have BW := nBW
          have G0 := nG0
          have G7 := nG7
          clear nHB nR7 nBW nG0 nG7
          have R9 := Lib.hid k9
          clear k9
          have LB := Lib.hid HB.out.size
          have LTG0 := Lib.hid (show W.heap.size < w51.heap.size from (Array.getElem?_eq_some_iff.1 G0.out).1)
          have LTG7 := Lib.hid (show g7 < w51.heap.size from (Array.getElem?_eq_some_iff.1 G7.out).1)
          obtain ⟨V51, hV51⟩ : ∃ V, V = w51.alloc (.cells (hubC x9 (hubI h (i + 1))) 29) := ⟨_, rfl⟩
          have ha := (Below.refl w51.heap.size w51).alloc (Nat.le_refl _) (.cells (hubC x9 (hubI h (i + 1))) 29)
          have hg := heap_alloc_new w51 (.cells (hubC x9 (hubI h (i + 1))) 29)
          have nHB := Lib.hid (HB.out.alloc HB.out.size (.cells (hubC x9 (hubI h (i + 1))) 29))
          rw [← hV51] at ha hg nHB
          have nR7 := Lib.hid ((R7.out.below ha (Nat.le_refl _)).more ha.size)
          have nBW := Lib.hid ((BW.out.below ha (Nat.le_refl _)).more ha.size)
          have nR9 := Lib.hid ((R9.out.below ha (Nat.le_refl _)).more ha.size)
          have nG0 := Lib.hid (oldG G0.out ha (Nat.le_refl _))
          have nG7 := Lib.hid (oldG G7.out ha (Nat.le_refl _))
          obtain ⟨g9, hg9⟩ : ∃ g, g = w51.heap.size := ⟨_, rfl⟩
          rw [← hg9] at hg
          have HXG9 := Lib.hid hg9
          have G9 := Lib.hid hg
          have HV := Lib.hid hV51
          clear ha hg hV51 hg9
          clear HB R7 BW R9 G0 G7
          have HB := nHB
          have R7 := nR7
          have BW := nBW
          have R9 := nR9
          have G0 := nG0
          have G7 := nG7
          clear nHB nR7 nBW nR9 nG0 nG7
          have LEG9 := Lib.hid (show W.heap.size ≤ g9 from by rw [HXG9.out]; exact LB.out)
          have NEG0G9 := Lib.hid (show W.heap.size ≠ g9 from by have h1 := LTG0.out; rw [HXG9.out]; omega)
          have NEG9G0 := Lib.hid (NEG0G9.out.symm)
          have NEG7G9 := Lib.hid (show g7 ≠ g9 from by have h1 := LTG7.out; rw [HXG9.out]; omega)
          have NEG9G7 := Lib.hid (NEG7G9.out.symm)
          clear LB LTG0 LTG7
          go_upto_region 16 with (refine storeHb _ (.tmp 9) (.tmp 47) _ x9 (hubI h (i + 1)) _ (heap_alloc_new _ _) rfl rfl rfl rfl rfl ?_; rw [setRowG_fold])
          rw [← HV.out]
          (try rw [← HXG9.out])
          clear HV HXG9
          have y0 := BoxH.cell G0.out HUP.out
          go_wp2_with (first | (refine loadHb _ (.tmp 1) W.heap.size x h G0.out rfl rfl rfl ?_) | (refine loadHb _ (.tmp 7) g7 xw (hubI h i) G7.out rfl rfl rfl ?_) | (refine loadHb _ (.tmp 9) g9 x9 (hubI h (i + 1)) G9.out rfl rfl rfl ?_))
          refine (CQ.out x9 _ R9.out).mono ?_
          rintro e w52 ⟨rfl, hb⟩
          have nHB := Lib.hid (belG HB.out hb HB.out.size)
          have nR7 := Lib.hid ((R7.out.below hb (Nat.le_refl _)).more hb.size)
          have nBW := Lib.hid ((BW.out.below hb (Nat.le_refl _)).more hb.size)
          have nR9 := Lib.hid ((R9.out.below hb (Nat.le_refl _)).more hb.size)
          have nG0 := Lib.hid (oldG G0.out hb (Nat.le_refl _))
          have nG7 := Lib.hid (oldG G7.out hb (Nat.le_refl _))
          have nG9 := Lib.hid (oldG G9.out hb (Nat.le_refl _))
          clear hb
          clear HB R7 BW R9 G0 G7 G9
          have HB := nHB
          have R7 := nR7
          have BW := nBW
          have R9 := nR9
          have G0 := nG0
          have G7 := nG7
          have G9 := nG9
          clear nHB nR7 nBW nR9 nG0 nG7 nG9
          clear y0
          go_wp2_with (first | (refine loadHb _ (.tmp 1) W.heap.size x h G0.out rfl rfl rfl ?_) | (refine loadHb _ (.tmp 7) g7 xw (hubI h i) G7.out rfl rfl rfl ?_) | (refine loadHb _ (.tmp 9) g9 x9 (hubI h (i + 1)) G9.out rfl rfl rfl ?_))
          have HOc := Lib.hid (OwN.call HOW.out BW.out)
          have HSc := Lib.hid (Nat.le_trans HSW.out BW.out.size)
          obtain ⟨Af, cf, rfl, hf1, hf2⟩ := HOc.out.form
          rw [csP_len] at hf1
          have HCS := Lib.hid (show csP h.up n0 i ++ [.int .i64 ((p : Nat) : Int)] = csP h.up n0 (i + 1) by rw [csP_succ, HPK.out])
          have hAf : 0 < i → ∃ g, Af = some ⟨g, 0, none⟩ ∧ ∀ j, j < i → w52.cell? ⟨g, j, none⟩ = some (.int .i64 ((pkH h.up n0 j : Nat) : Int)) := fun h0 => by
            obtain ⟨g, e, -, -, hc⟩ := HOc.out.cells (by rw [csP_len]; exact h0)
            exact ⟨g, e, fun j hj => hc j _ (csP_get _ _ hj)⟩
          have HAF := Lib.hid hAf
          have HOd := Lib.hid (show OwN w52 a (.slice Af i cf) (csP h.up n0 i) by have h9 := HOc.out; rw [csP_len] at h9; exact h9)
          simp only [csP_len]
          clear hf1 hf2 hAf HOW BW HOc
          have HOc := HOd
          clear HOd
          by_cases hiN : i < N
          · have hiNi : (i : Int) < (N : Int) := by omega
            have hiNn : ¬ (N : Int) ≤ (i : Int) := by omega
            have hdN : decide ((N : Int) ≤ (i : Int)) = false := decide_eq_false hiNn
            go_loop [12] (fun jv => ∃ j : Nat, j ≤ i ∧ jv = .int .i64 j) (fun jv => i - (intOf jv).toNat)
            case atStart => exact ⟨0, Nat.zero_le _, rfl⟩
            case round =>
              obtain ⟨j, hj, rfl⟩ := hrel
              by_cases hji : j < i
              · have hji2 : (j : Int) < (i : Int) := by omega
                have hj0 : (0 : Int) ≤ (j : Int) := Int.natCast_nonneg _
                obtain ⟨gf, rfl, hcell⟩ := HAF.out (by omega)
                have x0 := hcell j hji
                have hne : (((pkH h.up n0 j : Nat) : Int) == (p : Int)) = false := by
                  have h9 := fair_1 h.up hn4 (by rw [← HNN.out]; exact hiN) hji
                  rw [← HPK.out] at h9
                  simp
                  omega
                generalize pkH h.up n0 j = pj at *
                clear hcell
                go_wp2
                go_round
                case rel => exact ⟨j + 1, by omega, by go_num⟩
                case measure => simp [intOf]; omega
              · have hji2 : ¬ (j : Int) < (i : Int) := by omega
                go_wp2_with (first
                  | (at_builtin; refine wpList_appN _ rfl (.tmp 102) (.tmp 104) rfl a _ (csP h.up n0 i) rfl (by exact HOc.out.alloc _) ⟨w52.heap.size, 0, none⟩ 1 1 rfl [.int .i64 (p : Nat)] rfl (by exact cell_one_new _ _ _) (by intro u hu; have hu' : u = .int .i64 (p : Nat) := (by simpa using hu); exact ⟨_, hu'⟩) (by decide) (by rw [csP_len]; omega) (by exact le_alloc HSc.out _) ?_; intro v6 w6 hown6 hgrow6; have hal := (Below.refl w52.heap.size w52).alloc (Nat.le_refl _) (.cells #[.int .i64 ((p : Nat) : Int)] 3); have HG6 := Lib.hid (OwN.boxH (HOc.out.alloc _) (BoxH.old G0.out hal (Nat.le_refl _)) hgrow6); have HG76 := Lib.hid (OwN.boxH (HOc.out.alloc _) (BoxH.old G7.out hal (Nat.le_refl _)) hgrow6); have HG96 := Lib.hid (OwN.boxH (HOc.out.alloc _) (BoxH.old G9.out hal (Nat.le_refl _)) hgrow6); have HR96 := Lib.hid (HubR.set (R9.out.go hal) (fun _ _ hk => Rd.grownN hk (HOc.out.alloc _) hgrow6)); have HBX6 := Lib.hid (OwN.below (w0 := w52) (HOc.out.alloc _) ((Below.refl a w52).alloc HSc.out _) hgrow6 (le_alloc HSc.out _)); rw [HCS.out] at hown6; have HO6 := Lib.hid hown6; have HB6 := Lib.hid (HB.out.trans (HBX6.out.mono HLA.out)); have HS6 := Lib.hid (Nat.le_trans HSc.out HBX6.out.size); clear hown6 hgrow6 hal)
                  | (refine loadHb _ (.tmp 9) g9 x9 (hubI h (i + 1)) HG96.out rfl rfl rfl ?_)
                  | (refine storeHb _ (.tmp 7) (.tmp 106) g7 x9 (hubI h (i + 1)) _ HG76.out rfl rfl rfl rfl rfl ?_))
                have hO : OnlyH w6 (w6.setRow g7 (hubC x9 (hubI h (i + 1)))) g7 := (OnlyH.refl _ _).setRow _
                have HZ1 := Lib.hid (HO6.out.keepH HG76.out hO)
                have HZ2 := Lib.hid (show BoxH (w6.setRow g7 (hubC x9 (hubI h (i + 1)))) g7 x9 (hubI h (i + 1)) from setRow_heap _ _ _ _ _ _ HG76.out)
                have HZ3 := Lib.hid (hO.hubR HG76.out HR96.out)
                have HZ4 := Lib.hid (hO.box HG6.out NEG0G7.out)
                have HZ5 := Lib.hid (hO.below HB6.out LEG7.out)
                have HZ6 := Lib.hid (show a ≤ (w6.setRow g7 (hubC x9 (hubI h (i + 1)))).heap.size by rw [hO.2.1]; exact HS6.out)
                clear hO
                go_roundw
                case rel => exact ⟨i + 1, x9, by omega, by go_num, HZ1, HZ2, HZ3, HZ4, HZ5, HZ6⟩
                case measure => simp [intOf]; omega
          · have hiNi : ¬ (i : Int) < (N : Int) := by omega
            have hiNn : (N : Int) ≤ (i : Int) := by omega
            have hN1 : 0 < N := by omega
            obtain ⟨e, he⟩ : ∃ e : Nat, e = i - N := ⟨_, rfl⟩
            have hei : (i : Int) - (N : Int) = (e : Int) := by omega
            have hei2 : (e : Int) < (i : Int) := by omega
            have he0 : (0 : Int) ≤ (e : Int) := Int.natCast_nonneg _
            have hpe : pkH h.up n0 e = p := by
              have h9 := fair_2 h.up hn4 (i := e) (by rw [← HNN.out]; omega)
              rw [← HNN.out, show e + N = i by omega, ← HPK.out] at h9
              exact h9.symm
            have hpp : ((p : Int) != (p : Int)) = false := by simp
            go_loop [12] (fun jv => ∃ j : Nat, j ≤ i ∧ jv = .int .i64 j) (fun jv => i - (intOf jv).toNat)
            case atStart => exact ⟨0, Nat.zero_le _, rfl⟩
            case round =>
              obtain ⟨j, hj, rfl⟩ := hrel
              obtain ⟨gf, rfl, hcell⟩ := HAF.out (by omega)
              have x0 := hcell e (by omega)
              rw [hpe] at x0
              clear hcell hpe he
              have hj0 : (0 : Int) ≤ (j : Int) := Int.natCast_nonneg _
              by_cases hji : j < i
              · have hji2 : (j : Int) < (i : Int) := by omega
                go_wp2_with (first
                  | (at_builtin; refine wpList_appN _ rfl (.tmp 102) (.tmp 104) rfl a _ (csP h.up n0 i) rfl (by exact HOc.out.alloc _) ⟨w52.heap.size, 0, none⟩ 1 1 rfl [.int .i64 (p : Nat)] rfl (by exact cell_one_new _ _ _) (by intro u hu; have hu' : u = .int .i64 (p : Nat) := (by simpa using hu); exact ⟨_, hu'⟩) (by decide) (by rw [csP_len]; omega) (by exact le_alloc HSc.out _) ?_; intro v6 w6 hown6 hgrow6; have hal := (Below.refl w52.heap.size w52).alloc (Nat.le_refl _) (.cells #[.int .i64 ((p : Nat) : Int)] 3); have HG6 := Lib.hid (OwN.boxH (HOc.out.alloc _) (BoxH.old G0.out hal (Nat.le_refl _)) hgrow6); have HG76 := Lib.hid (OwN.boxH (HOc.out.alloc _) (BoxH.old G7.out hal (Nat.le_refl _)) hgrow6); have HG96 := Lib.hid (OwN.boxH (HOc.out.alloc _) (BoxH.old G9.out hal (Nat.le_refl _)) hgrow6); have HR96 := Lib.hid (HubR.set (R9.out.go hal) (fun _ _ hk => Rd.grownN hk (HOc.out.alloc _) hgrow6)); have HBX6 := Lib.hid (OwN.below (w0 := w52) (HOc.out.alloc _) ((Below.refl a w52).alloc HSc.out _) hgrow6 (le_alloc HSc.out _)); rw [HCS.out] at hown6; have HO6 := Lib.hid hown6; have HB6 := Lib.hid (HB.out.trans (HBX6.out.mono HLA.out)); have HS6 := Lib.hid (Nat.le_trans HSc.out HBX6.out.size); clear hown6 hgrow6 hal)
                  | (refine loadHb _ (.tmp 9) g9 x9 (hubI h (i + 1)) HG96.out rfl rfl rfl ?_)
                  | (refine storeHb _ (.tmp 7) (.tmp 106) g7 x9 (hubI h (i + 1)) _ HG76.out rfl rfl rfl rfl rfl ?_))
                have hO : OnlyH w6 (w6.setRow g7 (hubC x9 (hubI h (i + 1)))) g7 := (OnlyH.refl _ _).setRow _
                have HZ1 := Lib.hid (HO6.out.keepH HG76.out hO)
                have HZ2 := Lib.hid (show BoxH (w6.setRow g7 (hubC x9 (hubI h (i + 1)))) g7 x9 (hubI h (i + 1)) from setRow_heap _ _ _ _ _ _ HG76.out)
                have HZ3 := Lib.hid (hO.hubR HG76.out HR96.out)
                have HZ4 := Lib.hid (hO.box HG6.out NEG0G7.out)
                have HZ5 := Lib.hid (hO.below HB6.out LEG7.out)
                have HZ6 := Lib.hid (show a ≤ (w6.setRow g7 (hubC x9 (hubI h (i + 1)))).heap.size by rw [hO.2.1]; exact HS6.out)
                clear hO
                go_roundw
                case rel => exact ⟨i + 1, x9, by omega, by go_num, HZ1, HZ2, HZ3, HZ4, HZ5, HZ6⟩
                case measure => simp [intOf]; omega
              · have hji2 : ¬ (j : Int) < (i : Int) := by omega
                go_wp2_with (first
                  | (at_builtin; refine wpList_appN _ rfl (.tmp 102) (.tmp 104) rfl a _ (csP h.up n0 i) rfl (by exact HOc.out.alloc _) ⟨w52.heap.size, 0, none⟩ 1 1 rfl [.int .i64 (p : Nat)] rfl (by exact cell_one_new _ _ _) (by intro u hu; have hu' : u = .int .i64 (p : Nat) := (by simpa using hu); exact ⟨_, hu'⟩) (by decide) (by rw [csP_len]; omega) (by exact le_alloc HSc.out _) ?_; intro v6 w6 hown6 hgrow6; have hal := (Below.refl w52.heap.size w52).alloc (Nat.le_refl _) (.cells #[.int .i64 ((p : Nat) : Int)] 3); have HG6 := Lib.hid (OwN.boxH (HOc.out.alloc _) (BoxH.old G0.out hal (Nat.le_refl _)) hgrow6); have HG76 := Lib.hid (OwN.boxH (HOc.out.alloc _) (BoxH.old G7.out hal (Nat.le_refl _)) hgrow6); have HG96 := Lib.hid (OwN.boxH (HOc.out.alloc _) (BoxH.old G9.out hal (Nat.le_refl _)) hgrow6); have HR96 := Lib.hid (HubR.set (R9.out.go hal) (fun _ _ hk => Rd.grownN hk (HOc.out.alloc _) hgrow6)); have HBX6 := Lib.hid (OwN.below (w0 := w52) (HOc.out.alloc _) ((Below.refl a w52).alloc HSc.out _) hgrow6 (le_alloc HSc.out _)); rw [HCS.out] at hown6; have HO6 := Lib.hid hown6; have HB6 := Lib.hid (HB.out.trans (HBX6.out.mono HLA.out)); have HS6 := Lib.hid (Nat.le_trans HSc.out HBX6.out.size); clear hown6 hgrow6 hal)
                  | (refine loadHb _ (.tmp 9) g9 x9 (hubI h (i + 1)) HG96.out rfl rfl rfl ?_)
                  | (refine storeHb _ (.tmp 7) (.tmp 106) g7 x9 (hubI h (i + 1)) _ HG76.out rfl rfl rfl rfl rfl ?_))
                have hO : OnlyH w6 (w6.setRow g7 (hubC x9 (hubI h (i + 1)))) g7 := (OnlyH.refl _ _).setRow _
                have HZ1 := Lib.hid (HO6.out.keepH HG76.out hO)
                have HZ2 := Lib.hid (show BoxH (w6.setRow g7 (hubC x9 (hubI h (i + 1)))) g7 x9 (hubI h (i + 1)) from setRow_heap _ _ _ _ _ _ HG76.out)
                have HZ3 := Lib.hid (hO.hubR HG76.out HR96.out)
                have HZ4 := Lib.hid (hO.box HG6.out NEG0G7.out)
                have HZ5 := Lib.hid (hO.below HB6.out LEG7.out)
                have HZ6 := Lib.hid (show a ≤ (w6.setRow g7 (hubC x9 (hubI h (i + 1)))).heap.size by rw [hO.2.1]; exact HS6.out)
                clear hO
                go_roundw
                case rel => exact ⟨i + 1, x9, by omega, by go_num, HZ1, HZ2, HZ3, HZ4, HZ5, HZ6⟩
                case measure => simp [intOf]; omega
        · have hii : ¬ (i : Int) < 2 * (N : Int) := by omega
          have R0 := Lib.hid (RB.out wr HB.out)
          clear HOW G7 R7 HSW
          by_cases hN0 : 0 < N
          · have hNp : (0 : Int) < (N : Int) := by omega
            obtain ⟨E, hE⟩ : ∃ E, E = pickR h := ⟨_, rfl⟩
            have CE := Lib.hid (fun w (r0 : HubR w x h) => hPick_any x h w HRT.out HL.out r0)
            rw [← hE] at CE
            unfold AnsPk at CE
            clear hE
            go_wp2_with (first | (refine loadHb _ (.tmp 1) W.heap.size x h G0.out rfl rfl rfl ?_))
            refine (CE.out _ R0.out).mono ?_
            rintro e w81 ⟨⟨x5, rfl, k5⟩, hb⟩
            have nHB := Lib.hid (belG HB.out hb HB.out.size)
            have nR0 := Lib.hid ((R0.out.below hb (Nat.le_refl _)).more hb.size)
            have nG0 := Lib.hid (oldG G0.out hb (Nat.le_refl _))
            clear hb
            clear HB R0 G0
            have HB := nHB
            have R0 := nR0
            have G0 := nG0
            clear nHB nR0 nG0
            have R5 := Lib.hid k5
            clear k5
            have LB := Lib.hid HB.out.size
            have LTG0 := Lib.hid (show W.heap.size < w81.heap.size from (Array.getElem?_eq_some_iff.1 G0.out).1)
            obtain ⟨V81, hV81⟩ : ∃ V, V = w81.alloc (.cells (hubC x5 E.1) 29) := ⟨_, rfl⟩
            have ha := (Below.refl w81.heap.size w81).alloc (Nat.le_refl _) (.cells (hubC x5 E.1) 29)
            have hg := heap_alloc_new w81 (.cells (hubC x5 E.1) 29)
            have nHB := Lib.hid (HB.out.alloc HB.out.size (.cells (hubC x5 E.1) 29))
            rw [← hV81] at ha hg nHB
            have nR0 := Lib.hid ((R0.out.below ha (Nat.le_refl _)).more ha.size)
            have nR5 := Lib.hid ((R5.out.below ha (Nat.le_refl _)).more ha.size)
            have nG0 := Lib.hid (oldG G0.out ha (Nat.le_refl _))
            obtain ⟨g13, hg13⟩ : ∃ g, g = w81.heap.size := ⟨_, rfl⟩
            rw [← hg13] at hg
            have HXG13 := Lib.hid hg13
            have G13 := Lib.hid hg
            have HV := Lib.hid hV81
            clear ha hg hV81 hg13
            clear HB R0 R5 G0
            have HB := nHB
            have R0 := nR0
            have R5 := nR5
            have G0 := nG0
            clear nHB nR0 nR5 nG0
            have LEG13 := Lib.hid (show W.heap.size ≤ g13 from by rw [HXG13.out]; exact LB.out)
            have NEG0G13 := Lib.hid (show W.heap.size ≠ g13 from by have h1 := LTG0.out; rw [HXG13.out]; omega)
            have NEG13G0 := Lib.hid (NEG0G13.out.symm)
            clear LB LTG0
            go_upto_region 28 with (refine storeHb _ (.tmp 13) (.tmp 110) _ x5 E.1 _ (heap_alloc_new _ _) rfl rfl rfl rfl rfl ?_; rw [setRowG_fold])
            rw [← HV.out]
            (try rw [← HXG13.out])
            clear HV HXG13
            go_wp2_with (first | (refine loadHb _ (.tmp 1) W.heap.size x h G0.out rfl rfl rfl ?_) | (refine loadHb _ (.tmp 13) g13 x5 E.1 G13.out rfl rfl rfl ?_))
            go_ret
            exact ⟨by first | rfl | simp, HB.out⟩
          · have hNp : ¬ (0 : Int) < (N : Int) := by omega
            have hno : anyH h = false := by
              cases ha : anyH h with
              | false => rfl
              | true => exact absurd ((cntH_any h).2 ha) (by rw [← HNN.out]; exact hN0)
            have CE := Lib.hid (fun w (r0 : HubR w x h) => (show Calls Try.prog 14 #[.agg (hubC x h)] w fun e W' => AnsPk W' e (h, 0, 11) ∧ Below w.heap.size w W' from by
              have h9 := hPick_any x h w HRT.out HL.out r0
              rw [show pickR h = (h, 0, 11) from by unfold pickR; rw [if_neg (by rw [hno]; decide)]] at h9
              exact h9))
            have CS := Lib.hid (fun (x1 x2 : Wh) w (k1 : HubR w x1 h) (k2 : HubR w x2 h) => refSame9_any x1 x2 h h w k1 k2)
            simp only [decide_eq_true (SameHb.refl h)] at CS
            unfold AnsPk at CE
            clear hno
            go_wp2_with (first | (refine loadHb _ (.tmp 1) W.heap.size x h G0.out rfl rfl rfl ?_))
            refine (CE.out _ R0.out).mono ?_
            rintro e w81 ⟨⟨x5, rfl, k5⟩, hb⟩
            have nHB := Lib.hid (belG HB.out hb HB.out.size)
            have nR0 := Lib.hid ((R0.out.below hb (Nat.le_refl _)).more hb.size)
            have nG0 := Lib.hid (oldG G0.out hb (Nat.le_refl _))
            clear hb
            clear HB R0 G0
            have HB := nHB
            have R0 := nR0
            have G0 := nG0
            clear nHB nR0 nG0
            have R5 := Lib.hid k5
            clear k5
            have LB := Lib.hid HB.out.size
            have LTG0 := Lib.hid (show W.heap.size < w81.heap.size from (Array.getElem?_eq_some_iff.1 G0.out).1)
            obtain ⟨V81, hV81⟩ : ∃ V, V = w81.alloc (.cells (hubC x5 h) 29) := ⟨_, rfl⟩
            have ha := (Below.refl w81.heap.size w81).alloc (Nat.le_refl _) (.cells (hubC x5 h) 29)
            have hg := heap_alloc_new w81 (.cells (hubC x5 h) 29)
            have nHB := Lib.hid (HB.out.alloc HB.out.size (.cells (hubC x5 h) 29))
            rw [← hV81] at ha hg nHB
            have nR0 := Lib.hid ((R0.out.below ha (Nat.le_refl _)).more ha.size)
            have nR5 := Lib.hid ((R5.out.below ha (Nat.le_refl _)).more ha.size)
            have nG0 := Lib.hid (oldG G0.out ha (Nat.le_refl _))
            obtain ⟨g13, hg13⟩ : ∃ g, g = w81.heap.size := ⟨_, rfl⟩
            rw [← hg13] at hg
            have HXG13 := Lib.hid hg13
            have G13 := Lib.hid hg
            have HV := Lib.hid hV81
            clear ha hg hV81 hg13
            clear HB R0 R5 G0
            have HB := nHB
            have R0 := nR0
            have R5 := nR5
            have G0 := nG0
            clear nHB nR0 nR5 nG0
            have LEG13 := Lib.hid (show W.heap.size ≤ g13 from by rw [HXG13.out]; exact LB.out)
            have NEG0G13 := Lib.hid (show W.heap.size ≠ g13 from by have h1 := LTG0.out; rw [HXG13.out]; omega)
            have NEG13G0 := Lib.hid (NEG0G13.out.symm)
            clear LB LTG0
            go_upto_region 28 with (refine storeHb _ (.tmp 13) (.tmp 110) _ x5 h _ (heap_alloc_new _ _) rfl rfl rfl rfl rfl ?_; rw [setRowG_fold])
            rw [← HV.out]
            (try rw [← HXG13.out])
            clear HV HXG13
            go_wp2_with (first | (refine loadHb _ (.tmp 1) W.heap.size x h G0.out rfl rfl rfl ?_) | (refine loadHb _ (.tmp 13) g13 x5 h G13.out rfl rfl rfl ?_))
            refine (CS.out x5 x _ R5.out R0.out).mono ?_
            rintro e w82 ⟨rfl, hb⟩
            have nHB := Lib.hid (belG HB.out hb HB.out.size)
            have nR0 := Lib.hid ((R0.out.below hb (Nat.le_refl _)).more hb.size)
            have nR5 := Lib.hid ((R5.out.below hb (Nat.le_refl _)).more hb.size)
            have nG0 := Lib.hid (oldG G0.out hb (Nat.le_refl _))
            have nG13 := Lib.hid (oldG G13.out hb (Nat.le_refl _))
            clear hb
            clear HB R0 R5 G0 G13
            have HB := nHB
            have R0 := nR0
            have R5 := nR5
            have G0 := nG0
            have G13 := nG13
            clear nHB nR0 nR5 nG0 nG13
            go_wp2_with (first | (refine loadHb _ (.tmp 1) W.heap.size x h G0.out rfl rfl rfl ?_) | (refine loadHb _ (.tmp 13) g13 x5 h G13.out rfl rfl rfl ?_))
            go_ret
            exact ⟨by first | rfl | simp, HB.out⟩
end Go.Proofs.Ytplekllhnpljiaa
