
/- HubTells' walk. -/
import Derived.Test.YtplekllhnpljiaaJ29
namespace Go.Proofs.Ytplekllhnpljiaa
open Go.RowKit

set_option maxRecDepth 100000 in
set_option maxHeartbeats 4000000 in
theorem hubTells_walk (x : Wh) (h : Hb) (y : Wh) (r : Hb) (W : World) (hl : Hb64 h) (hr : HubR W x h) (hl2 : Hb64 r) (hr2 : HubR W y r) :
    Calls Try.prog 3 #[.agg (hubC x h), .agg (hubC y r)] W fun e W' => e = .returned (.bool true) ∧ Below W.heap.size W W' := by
  have R0 := Lib.hid hr
  have R1 := Lib.hid hr2
  have HL := Lib.hid hl
  have HL2 := Lib.hid hl2
  have CF := Lib.hid (fun w => refFew_any x h w)
  have CF2 := Lib.hid (fun w => refFew_any y r w)
  by_cases h1 : fewH h
  case neg =>
    rw [decide_eq_false h1] at CF
    clear hl hr hl2 hr2
    obtain ⟨V0, C, D, hC, hD, hV, hb, hg, hg2⟩ := boxH2 W x y h r
    have HB := Lib.hid hb
    have G0 := Lib.hid hg
    have G1 := Lib.hid hg2
    have nR0 := Lib.hid ((R0.out.below hb (Nat.le_refl _)).more hb.size)
    have nR1 := Lib.hid ((R1.out.below hb (Nat.le_refl _)).more hb.size)
    have HV := Lib.hid hV
    rw [← hC, ← hD]
    clear hb hg hg2 hV hC hD
    clear R0 R1
    have R0 := nR0
    have R1 := nR1
    clear nR0 nR1
    go_enter Try.func3, Try.ntmps3
    go_upto_region 1 with (fail)
    rw [← HV.out]
    clear HV
    go_wp2_with fail
    refine (shown9_any _).mono ?_
    rintro e w1 ⟨rfl, hb⟩
    have nHB := Lib.hid (belG HB.out hb HB.out.size)
    have nR0 := Lib.hid ((R0.out.below hb (Nat.le_refl _)).more hb.size)
    have nR1 := Lib.hid ((R1.out.below hb (Nat.le_refl _)).more hb.size)
    have nG0 := Lib.hid (oldG G0.out hb (Nat.le_refl _))
    have nG1 := Lib.hid (oldG G1.out hb (Nat.le_refl _))
    clear hb
    clear HB R0 R1 G0 G1
    have HB := nHB
    have R0 := nR0
    have R1 := nR1
    have G0 := nG0
    have G1 := nG1
    clear nHB nR0 nR1 nG0 nG1
    go_wp2_with (first | (refine loadHb _ (.tmp 2) W.heap.size x h G0.out rfl rfl rfl ?_) | (refine loadHb _ (.tmp 3) (W.heap.size + 1) y r G1.out rfl rfl rfl ?_))
    refine (CF.out _).mono ?_
    rintro e w2 ⟨rfl, hb⟩
    have nHB := Lib.hid (belG HB.out hb HB.out.size)
    have nR0 := Lib.hid ((R0.out.below hb (Nat.le_refl _)).more hb.size)
    have nR1 := Lib.hid ((R1.out.below hb (Nat.le_refl _)).more hb.size)
    have nG0 := Lib.hid (oldG G0.out hb (Nat.le_refl _))
    have nG1 := Lib.hid (oldG G1.out hb (Nat.le_refl _))
    clear hb
    clear HB R0 R1 G0 G1
    have HB := nHB
    have R0 := nR0
    have R1 := nR1
    have G0 := nG0
    have G1 := nG1
    clear nHB nR0 nR1 nG0 nG1
    go_wp2_with (first | (refine loadHb _ (.tmp 2) W.heap.size x h G0.out rfl rfl rfl ?_) | (refine loadHb _ (.tmp 3) (W.heap.size + 1) y r G1.out rfl rfl rfl ?_))
    go_ret
    exact ⟨rfl, HB.out⟩
  rw [decide_eq_true h1] at CF
  by_cases h2 : fewH r
  case neg =>
    rw [decide_eq_false h2] at CF2
    clear hl hr hl2 hr2
    obtain ⟨V0, C, D, hC, hD, hV, hb, hg, hg2⟩ := boxH2 W x y h r
    have HB := Lib.hid hb
    have G0 := Lib.hid hg
    have G1 := Lib.hid hg2
    have nR0 := Lib.hid ((R0.out.below hb (Nat.le_refl _)).more hb.size)
    have nR1 := Lib.hid ((R1.out.below hb (Nat.le_refl _)).more hb.size)
    have HV := Lib.hid hV
    rw [← hC, ← hD]
    clear hb hg hg2 hV hC hD
    clear R0 R1
    have R0 := nR0
    have R1 := nR1
    clear nR0 nR1
    go_enter Try.func3, Try.ntmps3
    go_upto_region 1 with (fail)
    rw [← HV.out]
    clear HV
    go_wp2_with fail
    refine (shown9_any _).mono ?_
    rintro e w1 ⟨rfl, hb⟩
    have nHB := Lib.hid (belG HB.out hb HB.out.size)
    have nR0 := Lib.hid ((R0.out.below hb (Nat.le_refl _)).more hb.size)
    have nR1 := Lib.hid ((R1.out.below hb (Nat.le_refl _)).more hb.size)
    have nG0 := Lib.hid (oldG G0.out hb (Nat.le_refl _))
    have nG1 := Lib.hid (oldG G1.out hb (Nat.le_refl _))
    clear hb
    clear HB R0 R1 G0 G1
    have HB := nHB
    have R0 := nR0
    have R1 := nR1
    have G0 := nG0
    have G1 := nG1
    clear nHB nR0 nR1 nG0 nG1
    go_wp2_with (first | (refine loadHb _ (.tmp 2) W.heap.size x h G0.out rfl rfl rfl ?_) | (refine loadHb _ (.tmp 3) (W.heap.size + 1) y r G1.out rfl rfl rfl ?_))
    refine (CF.out _).mono ?_
    rintro e w2 ⟨rfl, hb⟩
    have nHB := Lib.hid (belG HB.out hb HB.out.size)
    have nR0 := Lib.hid ((R0.out.below hb (Nat.le_refl _)).more hb.size)
    have nR1 := Lib.hid ((R1.out.below hb (Nat.le_refl _)).more hb.size)
    have nG0 := Lib.hid (oldG G0.out hb (Nat.le_refl _))
    have nG1 := Lib.hid (oldG G1.out hb (Nat.le_refl _))
    clear hb
    clear HB R0 R1 G0 G1
    have HB := nHB
    have R0 := nR0
    have R1 := nR1
    have G0 := nG0
    have G1 := nG1
    clear nHB nR0 nR1 nG0 nG1
    go_wp2_with (first | (refine loadHb _ (.tmp 2) W.heap.size x h G0.out rfl rfl rfl ?_) | (refine loadHb _ (.tmp 3) (W.heap.size + 1) y r G1.out rfl rfl rfl ?_))
    refine (CF2.out _).mono ?_
    rintro e w3 ⟨rfl, hb⟩
    have nHB := Lib.hid (belG HB.out hb HB.out.size)
    have nR0 := Lib.hid ((R0.out.below hb (Nat.le_refl _)).more hb.size)
    have nR1 := Lib.hid ((R1.out.below hb (Nat.le_refl _)).more hb.size)
    have nG0 := Lib.hid (oldG G0.out hb (Nat.le_refl _))
    have nG1 := Lib.hid (oldG G1.out hb (Nat.le_refl _))
    clear hb
    clear HB R0 R1 G0 G1
    have HB := nHB
    have R0 := nR0
    have R1 := nR1
    have G0 := nG0
    have G1 := nG1
    clear nHB nR0 nR1 nG0 nG1
    go_wp2_with (first | (refine loadHb _ (.tmp 2) W.heap.size x h G0.out rfl rfl rfl ?_) | (refine loadHb _ (.tmp 3) (W.heap.size + 1) y r G1.out rfl rfl rfl ?_))
    go_ret
    exact ⟨rfl, HB.out⟩
  rw [decide_eq_true h2] at CF2
  have CR := Lib.hid (fun w (hB : Below W.heap.size W w) (k : HubR w x h) => refRight9_any x h w k)
  have CQ := Lib.hid (fun w (hB : Below W.heap.size W w) (k : HubR w x h) => hRight_any x h w h1.b HL.out k)
  have CS := Lib.hid (fun w (hB : Below W.heap.size W w) (k : HubR w x h) (k2 : HubR w y r) => hSame_any x y h r w h1.b h2.b HL.out HL2.out k k2)
  have CT := Lib.hid (fun w (hB : Below W.heap.size W w) (k : HubR w x h) (k2 : HubR w y r) => refSame9_any x y h r w k k2)
  have CA := Lib.hid (fun w (hB : Below W.heap.size W w) (k : HubR w x h) => hAny_any x h w h1.b HL.out k)
  have CB := Lib.hid (fun w (hB : Below W.heap.size W w) => refAny_any x h w)
  by_cases hR : RightHb h
  case neg =>
    simp only [decide_eq_false hR] at CR CQ
    generalize decide (SameHb h r) = FS at *
    have eS : (FS != FS) = false := by simp
    clear hl hr hl2 hr2
    obtain ⟨V0, C, D, hC, hD, hV, hb, hg, hg2⟩ := boxH2 W x y h r
    have HB := Lib.hid hb
    have G0 := Lib.hid hg
    have G1 := Lib.hid hg2
    have nR0 := Lib.hid ((R0.out.below hb (Nat.le_refl _)).more hb.size)
    have nR1 := Lib.hid ((R1.out.below hb (Nat.le_refl _)).more hb.size)
    have HV := Lib.hid hV
    rw [← hC, ← hD]
    clear hb hg hg2 hV hC hD
    clear R0 R1
    have R0 := nR0
    have R1 := nR1
    clear nR0 nR1
    go_enter Try.func3, Try.ntmps3
    go_upto_region 1 with (fail)
    rw [← HV.out]
    clear HV
    go_wp2_with fail
    refine (shown9_any _).mono ?_
    rintro e w1 ⟨rfl, hb⟩
    have nHB := Lib.hid (belG HB.out hb HB.out.size)
    have nR0 := Lib.hid ((R0.out.below hb (Nat.le_refl _)).more hb.size)
    have nR1 := Lib.hid ((R1.out.below hb (Nat.le_refl _)).more hb.size)
    have nG0 := Lib.hid (oldG G0.out hb (Nat.le_refl _))
    have nG1 := Lib.hid (oldG G1.out hb (Nat.le_refl _))
    clear hb
    clear HB R0 R1 G0 G1
    have HB := nHB
    have R0 := nR0
    have R1 := nR1
    have G0 := nG0
    have G1 := nG1
    clear nHB nR0 nR1 nG0 nG1
    go_wp2_with (first | (refine loadHb _ (.tmp 2) W.heap.size x h G0.out rfl rfl rfl ?_) | (refine loadHb _ (.tmp 3) (W.heap.size + 1) y r G1.out rfl rfl rfl ?_))
    refine (CF.out _).mono ?_
    rintro e w2 ⟨rfl, hb⟩
    have nHB := Lib.hid (belG HB.out hb HB.out.size)
    have nR0 := Lib.hid ((R0.out.below hb (Nat.le_refl _)).more hb.size)
    have nR1 := Lib.hid ((R1.out.below hb (Nat.le_refl _)).more hb.size)
    have nG0 := Lib.hid (oldG G0.out hb (Nat.le_refl _))
    have nG1 := Lib.hid (oldG G1.out hb (Nat.le_refl _))
    clear hb
    clear HB R0 R1 G0 G1
    have HB := nHB
    have R0 := nR0
    have R1 := nR1
    have G0 := nG0
    have G1 := nG1
    clear nHB nR0 nR1 nG0 nG1
    go_wp2_with (first | (refine loadHb _ (.tmp 2) W.heap.size x h G0.out rfl rfl rfl ?_) | (refine loadHb _ (.tmp 3) (W.heap.size + 1) y r G1.out rfl rfl rfl ?_))
    refine (CF2.out _).mono ?_
    rintro e w3 ⟨rfl, hb⟩
    have nHB := Lib.hid (belG HB.out hb HB.out.size)
    have nR0 := Lib.hid ((R0.out.below hb (Nat.le_refl _)).more hb.size)
    have nR1 := Lib.hid ((R1.out.below hb (Nat.le_refl _)).more hb.size)
    have nG0 := Lib.hid (oldG G0.out hb (Nat.le_refl _))
    have nG1 := Lib.hid (oldG G1.out hb (Nat.le_refl _))
    clear hb
    clear HB R0 R1 G0 G1
    have HB := nHB
    have R0 := nR0
    have R1 := nR1
    have G0 := nG0
    have G1 := nG1
    clear nHB nR0 nR1 nG0 nG1
    go_wp2_with (first | (refine loadHb _ (.tmp 2) W.heap.size x h G0.out rfl rfl rfl ?_) | (refine loadHb _ (.tmp 3) (W.heap.size + 1) y r G1.out rfl rfl rfl ?_))
    refine (CR.out _ HB.out R0.out).mono ?_
    rintro e w4 ⟨rfl, hb⟩
    have nHB := Lib.hid (belG HB.out hb HB.out.size)
    have nR0 := Lib.hid ((R0.out.below hb (Nat.le_refl _)).more hb.size)
    have nR1 := Lib.hid ((R1.out.below hb (Nat.le_refl _)).more hb.size)
    have nG0 := Lib.hid (oldG G0.out hb (Nat.le_refl _))
    have nG1 := Lib.hid (oldG G1.out hb (Nat.le_refl _))
    clear hb
    clear HB R0 R1 G0 G1
    have HB := nHB
    have R0 := nR0
    have R1 := nR1
    have G0 := nG0
    have G1 := nG1
    clear nHB nR0 nR1 nG0 nG1
    have BB0 := Lib.hid ((Below.refl w4.heap.size w4).drew)
    have F0 := Lib.hid (fun w (h : Below w4.heap.size w4 w) => belG HB.out h HB.out.size)
    have FR0 := Lib.hid (fun w (h : Below w4.heap.size w4 w) => (R0.out.below h (Nat.le_refl _)).more h.size)
    have FR1 := Lib.hid (fun w (h : Below w4.heap.size w4 w) => (R1.out.below h (Nat.le_refl _)).more h.size)
    go_wp2_with (first | (refine loadHb _ (.tmp 2) W.heap.size x h G0.out rfl rfl rfl ?_) | (refine loadHb _ (.tmp 3) (W.heap.size + 1) y r G1.out rfl rfl rfl ?_))
    refine wp_region_noPanic ?_
    refine wp_region_held_drew (S := fun w' => Below w4.heap.size w4 w') (by kernel_rfl) BB0.out (fun hHeld => ?_)
    repeat (first
      | (refine wpAnyH_take (i := 0) (oi := ?_) (v := .agg (hubC x h)) ?_ (by kernel_rfl) (by decide +kernel) (by decide +kernel) (fun _ _ _ h => h) ?_ (by assumption) ?_; rotate_left 1; (focus (simp only [List.getElem?_toArray, List.getElem?_cons_zero] <;> rfl)); (focus (refine yields_hub ?_ (.tmp 2) ?_ (W.heap.size) ?_ (hubC x h) ?_; (focus rfl); (focus exact rfl); (focus exact rfl); exact fun w (hSw : Below w4.heap.size w4 w) => run_loadHb (BoxH.old G0.out hSw (Nat.le_refl _)))); (try simp only [Act.put, List.setIfInBounds_toArray, List.set_cons_zero, List.set_cons_succ]))
      | (refine wpAnyH_take (i := 2) (oi := ?_) (v := ?_) ?_ (by kernel_rfl) (by decide +kernel) (by decide +kernel) (fun _ _ _ h => h) ?_ (by assumption) ?_; rotate_left 2; (focus (simp only [List.getElem?_toArray, List.getElem?_cons_succ, List.getElem?_cons_zero] <;> rfl)); (focus (refine Or.inl ⟨by rfl, ?_⟩; intro w hSw; go_simp <;> with_reducible rfl)); (try simp only [Act.put, List.setIfInBounds_toArray, List.set_cons_zero, List.set_cons_succ]))
      | (refine wpAnyH_take (i := 3) (oi := ?_) (v := ?_) ?_ (by kernel_rfl) (by decide +kernel) (by decide +kernel) (fun _ _ _ h => h) ?_ (by assumption) ?_; rotate_left 2; (focus (simp only [List.getElem?_toArray, List.getElem?_cons_succ, List.getElem?_cons_zero] <;> rfl)); (focus (refine Or.inl ⟨by rfl, ?_⟩; intro w hSw; go_simp <;> with_reducible rfl)); (try simp only [Act.put, List.setIfInBounds_toArray, List.set_cons_zero, List.set_cons_succ]))
      | (refine wpAnyH_take (i := 4) (oi := ?_) (v := ?_) ?_ (by kernel_rfl) (by decide +kernel) (by decide +kernel) (fun _ _ _ h => h) ?_ (by assumption) ?_; rotate_left 2; (focus (simp only [List.getElem?_toArray, List.getElem?_cons_succ, List.getElem?_cons_zero] <;> rfl)); (focus (refine Or.inl ⟨by rfl, ?_⟩; intro w hSw; go_simp <;> with_reducible rfl)); (try simp only [Act.put, List.setIfInBounds_toArray, List.set_cons_zero, List.set_cons_succ]))
      | (refine wpAnyH_take (i := 5) (oi := ?_) (v := .agg (hubC x h)) ?_ (by kernel_rfl) (by decide +kernel) (by decide +kernel) (fun _ _ _ h => h) ?_ (by assumption) ?_; rotate_left 1; (focus (simp only [List.getElem?_toArray, List.getElem?_cons_succ, List.getElem?_cons_zero] <;> rfl)); (focus (refine yields_hub ?_ (.tmp 2) ?_ (W.heap.size) ?_ (hubC x h) ?_; (focus rfl); (focus exact rfl); (focus exact rfl); exact fun w (hSw : Below w4.heap.size w4 w) => run_loadHb (BoxH.old G0.out hSw (Nat.le_refl _)))); (try simp only [Act.put, List.setIfInBounds_toArray, List.set_cons_zero, List.set_cons_succ]))
      | (refine wpAnyH_take (i := 6) (oi := ?_) (v := .agg (hubC y r)) ?_ (by kernel_rfl) (by decide +kernel) (by decide +kernel) (fun _ _ _ h => h) ?_ (by assumption) ?_; rotate_left 1; (focus (simp only [List.getElem?_toArray, List.getElem?_cons_succ, List.getElem?_cons_zero] <;> rfl)); (focus (refine yields_hub ?_ (.tmp 3) ?_ ((W.heap.size + 1)) ?_ (hubC y r) ?_; (focus rfl); (focus exact rfl); (focus exact rfl); exact fun w (hSw : Below w4.heap.size w4 w) => run_loadHb (BoxH.old G1.out hSw (Nat.le_refl _)))); (try simp only [Act.put, List.setIfInBounds_toArray, List.set_cons_zero, List.set_cons_succ]))
      | (refine wpAnyH_take (i := 8) (oi := ?_) (v := .agg (hubC x h)) ?_ (by kernel_rfl) (by decide +kernel) (by decide +kernel) (fun _ _ _ h => h) ?_ (by assumption) ?_; rotate_left 1; (focus (simp only [List.getElem?_toArray, List.getElem?_cons_succ, List.getElem?_cons_zero] <;> rfl)); (focus (refine yields_hub ?_ (.tmp 2) ?_ (W.heap.size) ?_ (hubC x h) ?_; (focus rfl); (focus exact rfl); (focus exact rfl); exact fun w (hSw : Below w4.heap.size w4 w) => run_loadHb (BoxH.old G0.out hSw (Nat.le_refl _)))); (try simp only [Act.put, List.setIfInBounds_toArray, List.set_cons_zero, List.set_cons_succ]))
      | (refine wpAnyH_take (i := 9) (oi := ?_) (v := .agg (hubC y r)) ?_ (by kernel_rfl) (by decide +kernel) (by decide +kernel) (fun _ _ _ h => h) ?_ (by assumption) ?_; rotate_left 1; (focus (simp only [List.getElem?_toArray, List.getElem?_cons_succ, List.getElem?_cons_zero] <;> rfl)); (focus (refine yields_hub ?_ (.tmp 3) ?_ ((W.heap.size + 1)) ?_ (hubC y r) ?_; (focus rfl); (focus exact rfl); (focus exact rfl); exact fun w (hSw : Below w4.heap.size w4 w) => run_loadHb (BoxH.old G1.out hSw (Nat.le_refl _)))); (try simp only [Act.put, List.setIfInBounds_toArray, List.set_cons_zero, List.set_cons_succ]))
      | (refine wpAnyH_take (i := 11) (oi := ?_) (v := ?_) ?_ (by kernel_rfl) (by decide +kernel) (by decide +kernel) (fun _ _ _ h => h) ?_ (by assumption) ?_; rotate_left 2; (focus (simp only [List.getElem?_toArray, List.getElem?_cons_succ, List.getElem?_cons_zero] <;> rfl)); (focus (refine Or.inl ⟨by rfl, ?_⟩; intro w hSw; go_simp <;> with_reducible rfl)); (try simp only [Act.put, List.setIfInBounds_toArray, List.set_cons_zero, List.set_cons_succ]))
      | (refine wpAnyH_take (i := 12) (oi := ?_) (v := ?_) ?_ (by kernel_rfl) (by decide +kernel) (by decide +kernel) (fun _ _ _ h => h) ?_ (by assumption) ?_; rotate_left 2; (focus (simp only [List.getElem?_toArray, List.getElem?_cons_succ, List.getElem?_cons_zero] <;> rfl)); (focus (refine Or.inl ⟨by rfl, ?_⟩; intro w hSw; go_simp <;> with_reducible rfl)); (try simp only [Act.put, List.setIfInBounds_toArray, List.set_cons_zero, List.set_cons_succ])))
    refine wpAnyH_ready (rs := [1]) (by decide +kernel) (by simp) ?_
    refine AllReadyH.cons rfl (fun K hK => ?_) AllReadyH.nil
    go_simp
    go_at_call 11
    refine (CQ.out _ (F0.out _ BB0.out) (FR0.out _ BB0.out)).mono ?_
    rintro e wz0 ⟨rfl, hb⟩
    have BB1 := Lib.hid (belG BB0.out hb BB0.out.size)
    clear hb
    refine hK.out _ _ BB1.out (fun hHeld => ?_)
    clear hK K
    (try simp only [Act.put, List.setIfInBounds_toArray, List.set_cons_zero, List.set_cons_succ])
    repeat (first
      | (refine wpAnyH_take (i := 0) (oi := ?_) (v := .agg (hubC x h)) ?_ (by kernel_rfl) (by decide +kernel) (by decide +kernel) (fun _ _ _ h => h) ?_ (by assumption) ?_; rotate_left 1; (focus (simp only [List.getElem?_toArray, List.getElem?_cons_succ, List.getElem?_cons_zero] <;> rfl)); (focus (refine yields_hub ?_ (.tmp 2) ?_ (W.heap.size) ?_ (hubC x h) ?_; (focus rfl); (focus exact rfl); (focus exact rfl); exact fun w (hSw : Below w4.heap.size w4 w) => run_loadHb (BoxH.old G0.out hSw (Nat.le_refl _)))); (try simp only [Act.put, List.setIfInBounds_toArray, List.set_cons_zero, List.set_cons_succ]))
      | (refine wpAnyH_take (i := 2) (oi := ?_) (v := ?_) ?_ (by kernel_rfl) (by decide +kernel) (by decide +kernel) (fun _ _ _ h => h) ?_ (by assumption) ?_; rotate_left 2; (focus (simp only [List.getElem?_toArray, List.getElem?_cons_succ, List.getElem?_cons_zero] <;> rfl)); (focus (refine Or.inl ⟨by rfl, ?_⟩; intro w hSw; go_simp <;> with_reducible rfl)); (try simp only [Act.put, List.setIfInBounds_toArray, List.set_cons_zero, List.set_cons_succ]))
      | (refine wpAnyH_take (i := 3) (oi := ?_) (v := ?_) ?_ (by kernel_rfl) (by decide +kernel) (by decide +kernel) (fun _ _ _ h => h) ?_ (by assumption) ?_; rotate_left 2; (focus (simp only [List.getElem?_toArray, List.getElem?_cons_succ, List.getElem?_cons_zero] <;> rfl)); (focus (refine Or.inl ⟨by rfl, ?_⟩; intro w hSw; go_simp <;> with_reducible rfl)); (try simp only [Act.put, List.setIfInBounds_toArray, List.set_cons_zero, List.set_cons_succ]))
      | (refine wpAnyH_take (i := 4) (oi := ?_) (v := ?_) ?_ (by kernel_rfl) (by decide +kernel) (by decide +kernel) (fun _ _ _ h => h) ?_ (by assumption) ?_; rotate_left 2; (focus (simp only [List.getElem?_toArray, List.getElem?_cons_succ, List.getElem?_cons_zero] <;> rfl)); (focus (refine Or.inl ⟨by rfl, ?_⟩; intro w hSw; go_simp <;> with_reducible rfl)); (try simp only [Act.put, List.setIfInBounds_toArray, List.set_cons_zero, List.set_cons_succ]))
      | (refine wpAnyH_take (i := 5) (oi := ?_) (v := .agg (hubC x h)) ?_ (by kernel_rfl) (by decide +kernel) (by decide +kernel) (fun _ _ _ h => h) ?_ (by assumption) ?_; rotate_left 1; (focus (simp only [List.getElem?_toArray, List.getElem?_cons_succ, List.getElem?_cons_zero] <;> rfl)); (focus (refine yields_hub ?_ (.tmp 2) ?_ (W.heap.size) ?_ (hubC x h) ?_; (focus rfl); (focus exact rfl); (focus exact rfl); exact fun w (hSw : Below w4.heap.size w4 w) => run_loadHb (BoxH.old G0.out hSw (Nat.le_refl _)))); (try simp only [Act.put, List.setIfInBounds_toArray, List.set_cons_zero, List.set_cons_succ]))
      | (refine wpAnyH_take (i := 6) (oi := ?_) (v := .agg (hubC y r)) ?_ (by kernel_rfl) (by decide +kernel) (by decide +kernel) (fun _ _ _ h => h) ?_ (by assumption) ?_; rotate_left 1; (focus (simp only [List.getElem?_toArray, List.getElem?_cons_succ, List.getElem?_cons_zero] <;> rfl)); (focus (refine yields_hub ?_ (.tmp 3) ?_ ((W.heap.size + 1)) ?_ (hubC y r) ?_; (focus rfl); (focus exact rfl); (focus exact rfl); exact fun w (hSw : Below w4.heap.size w4 w) => run_loadHb (BoxH.old G1.out hSw (Nat.le_refl _)))); (try simp only [Act.put, List.setIfInBounds_toArray, List.set_cons_zero, List.set_cons_succ]))
      | (refine wpAnyH_take (i := 8) (oi := ?_) (v := .agg (hubC x h)) ?_ (by kernel_rfl) (by decide +kernel) (by decide +kernel) (fun _ _ _ h => h) ?_ (by assumption) ?_; rotate_left 1; (focus (simp only [List.getElem?_toArray, List.getElem?_cons_succ, List.getElem?_cons_zero] <;> rfl)); (focus (refine yields_hub ?_ (.tmp 2) ?_ (W.heap.size) ?_ (hubC x h) ?_; (focus rfl); (focus exact rfl); (focus exact rfl); exact fun w (hSw : Below w4.heap.size w4 w) => run_loadHb (BoxH.old G0.out hSw (Nat.le_refl _)))); (try simp only [Act.put, List.setIfInBounds_toArray, List.set_cons_zero, List.set_cons_succ]))
      | (refine wpAnyH_take (i := 9) (oi := ?_) (v := .agg (hubC y r)) ?_ (by kernel_rfl) (by decide +kernel) (by decide +kernel) (fun _ _ _ h => h) ?_ (by assumption) ?_; rotate_left 1; (focus (simp only [List.getElem?_toArray, List.getElem?_cons_succ, List.getElem?_cons_zero] <;> rfl)); (focus (refine yields_hub ?_ (.tmp 3) ?_ ((W.heap.size + 1)) ?_ (hubC y r) ?_; (focus rfl); (focus exact rfl); (focus exact rfl); exact fun w (hSw : Below w4.heap.size w4 w) => run_loadHb (BoxH.old G1.out hSw (Nat.le_refl _)))); (try simp only [Act.put, List.setIfInBounds_toArray, List.set_cons_zero, List.set_cons_succ]))
      | (refine wpAnyH_take (i := 11) (oi := ?_) (v := ?_) ?_ (by kernel_rfl) (by decide +kernel) (by decide +kernel) (fun _ _ _ h => h) ?_ (by assumption) ?_; rotate_left 2; (focus (simp only [List.getElem?_toArray, List.getElem?_cons_succ, List.getElem?_cons_zero] <;> rfl)); (focus (refine Or.inl ⟨by rfl, ?_⟩; intro w hSw; go_simp <;> with_reducible rfl)); (try simp only [Act.put, List.setIfInBounds_toArray, List.set_cons_zero, List.set_cons_succ]))
      | (refine wpAnyH_take (i := 12) (oi := ?_) (v := ?_) ?_ (by kernel_rfl) (by decide +kernel) (by decide +kernel) (fun _ _ _ h => h) ?_ (by assumption) ?_; rotate_left 2; (focus (simp only [List.getElem?_toArray, List.getElem?_cons_succ, List.getElem?_cons_zero] <;> rfl)); (focus (refine Or.inl ⟨by rfl, ?_⟩; intro w hSw; go_simp <;> with_reducible rfl)); (try simp only [Act.put, List.setIfInBounds_toArray, List.set_cons_zero, List.set_cons_succ])))
    refine wpAnyH_ready (rs := [7]) (by decide +kernel) (by simp) ?_
    refine AllReadyH.cons rfl (fun K hK => ?_) AllReadyH.nil
    go_simp
    go_at_call 12
    refine (CS.out _ (F0.out _ BB1.out) (FR0.out _ BB1.out) (FR1.out _ BB1.out)).mono ?_
    rintro e wz1 ⟨rfl, hb⟩
    have BB2 := Lib.hid (belG BB1.out hb BB1.out.size)
    clear hb
    refine hK.out _ _ BB2.out (fun hHeld => ?_)
    clear hK K
    (try simp only [Act.put, List.setIfInBounds_toArray, List.set_cons_zero, List.set_cons_succ])
    repeat (first
      | (refine wpAnyH_take (i := 0) (oi := ?_) (v := .agg (hubC x h)) ?_ (by kernel_rfl) (by decide +kernel) (by decide +kernel) (fun _ _ _ h => h) ?_ (by assumption) ?_; rotate_left 1; (focus (simp only [List.getElem?_toArray, List.getElem?_cons_succ, List.getElem?_cons_zero] <;> rfl)); (focus (refine yields_hub ?_ (.tmp 2) ?_ (W.heap.size) ?_ (hubC x h) ?_; (focus rfl); (focus exact rfl); (focus exact rfl); exact fun w (hSw : Below w4.heap.size w4 w) => run_loadHb (BoxH.old G0.out hSw (Nat.le_refl _)))); (try simp only [Act.put, List.setIfInBounds_toArray, List.set_cons_zero, List.set_cons_succ]))
      | (refine wpAnyH_take (i := 2) (oi := ?_) (v := ?_) ?_ (by kernel_rfl) (by decide +kernel) (by decide +kernel) (fun _ _ _ h => h) ?_ (by assumption) ?_; rotate_left 2; (focus (simp only [List.getElem?_toArray, List.getElem?_cons_succ, List.getElem?_cons_zero] <;> rfl)); (focus (refine Or.inl ⟨by rfl, ?_⟩; intro w hSw; go_simp <;> with_reducible rfl)); (try simp only [Act.put, List.setIfInBounds_toArray, List.set_cons_zero, List.set_cons_succ]))
      | (refine wpAnyH_take (i := 3) (oi := ?_) (v := ?_) ?_ (by kernel_rfl) (by decide +kernel) (by decide +kernel) (fun _ _ _ h => h) ?_ (by assumption) ?_; rotate_left 2; (focus (simp only [List.getElem?_toArray, List.getElem?_cons_succ, List.getElem?_cons_zero] <;> rfl)); (focus (refine Or.inl ⟨by rfl, ?_⟩; intro w hSw; go_simp <;> with_reducible rfl)); (try simp only [Act.put, List.setIfInBounds_toArray, List.set_cons_zero, List.set_cons_succ]))
      | (refine wpAnyH_take (i := 4) (oi := ?_) (v := ?_) ?_ (by kernel_rfl) (by decide +kernel) (by decide +kernel) (fun _ _ _ h => h) ?_ (by assumption) ?_; rotate_left 2; (focus (simp only [List.getElem?_toArray, List.getElem?_cons_succ, List.getElem?_cons_zero] <;> rfl)); (focus (refine Or.inl ⟨by rfl, ?_⟩; intro w hSw; go_simp <;> with_reducible rfl)); (try simp only [Act.put, List.setIfInBounds_toArray, List.set_cons_zero, List.set_cons_succ]))
      | (refine wpAnyH_take (i := 5) (oi := ?_) (v := .agg (hubC x h)) ?_ (by kernel_rfl) (by decide +kernel) (by decide +kernel) (fun _ _ _ h => h) ?_ (by assumption) ?_; rotate_left 1; (focus (simp only [List.getElem?_toArray, List.getElem?_cons_succ, List.getElem?_cons_zero] <;> rfl)); (focus (refine yields_hub ?_ (.tmp 2) ?_ (W.heap.size) ?_ (hubC x h) ?_; (focus rfl); (focus exact rfl); (focus exact rfl); exact fun w (hSw : Below w4.heap.size w4 w) => run_loadHb (BoxH.old G0.out hSw (Nat.le_refl _)))); (try simp only [Act.put, List.setIfInBounds_toArray, List.set_cons_zero, List.set_cons_succ]))
      | (refine wpAnyH_take (i := 6) (oi := ?_) (v := .agg (hubC y r)) ?_ (by kernel_rfl) (by decide +kernel) (by decide +kernel) (fun _ _ _ h => h) ?_ (by assumption) ?_; rotate_left 1; (focus (simp only [List.getElem?_toArray, List.getElem?_cons_succ, List.getElem?_cons_zero] <;> rfl)); (focus (refine yields_hub ?_ (.tmp 3) ?_ ((W.heap.size + 1)) ?_ (hubC y r) ?_; (focus rfl); (focus exact rfl); (focus exact rfl); exact fun w (hSw : Below w4.heap.size w4 w) => run_loadHb (BoxH.old G1.out hSw (Nat.le_refl _)))); (try simp only [Act.put, List.setIfInBounds_toArray, List.set_cons_zero, List.set_cons_succ]))
      | (refine wpAnyH_take (i := 8) (oi := ?_) (v := .agg (hubC x h)) ?_ (by kernel_rfl) (by decide +kernel) (by decide +kernel) (fun _ _ _ h => h) ?_ (by assumption) ?_; rotate_left 1; (focus (simp only [List.getElem?_toArray, List.getElem?_cons_succ, List.getElem?_cons_zero] <;> rfl)); (focus (refine yields_hub ?_ (.tmp 2) ?_ (W.heap.size) ?_ (hubC x h) ?_; (focus rfl); (focus exact rfl); (focus exact rfl); exact fun w (hSw : Below w4.heap.size w4 w) => run_loadHb (BoxH.old G0.out hSw (Nat.le_refl _)))); (try simp only [Act.put, List.setIfInBounds_toArray, List.set_cons_zero, List.set_cons_succ]))
      | (refine wpAnyH_take (i := 9) (oi := ?_) (v := .agg (hubC y r)) ?_ (by kernel_rfl) (by decide +kernel) (by decide +kernel) (fun _ _ _ h => h) ?_ (by assumption) ?_; rotate_left 1; (focus (simp only [List.getElem?_toArray, List.getElem?_cons_succ, List.getElem?_cons_zero] <;> rfl)); (focus (refine yields_hub ?_ (.tmp 3) ?_ ((W.heap.size + 1)) ?_ (hubC y r) ?_; (focus rfl); (focus exact rfl); (focus exact rfl); exact fun w (hSw : Below w4.heap.size w4 w) => run_loadHb (BoxH.old G1.out hSw (Nat.le_refl _)))); (try simp only [Act.put, List.setIfInBounds_toArray, List.set_cons_zero, List.set_cons_succ]))
      | (refine wpAnyH_take (i := 11) (oi := ?_) (v := ?_) ?_ (by kernel_rfl) (by decide +kernel) (by decide +kernel) (fun _ _ _ h => h) ?_ (by assumption) ?_; rotate_left 2; (focus (simp only [List.getElem?_toArray, List.getElem?_cons_succ, List.getElem?_cons_zero] <;> rfl)); (focus (refine Or.inl ⟨by rfl, ?_⟩; intro w hSw; go_simp <;> with_reducible rfl)); (try simp only [Act.put, List.setIfInBounds_toArray, List.set_cons_zero, List.set_cons_succ]))
      | (refine wpAnyH_take (i := 12) (oi := ?_) (v := ?_) ?_ (by kernel_rfl) (by decide +kernel) (by decide +kernel) (fun _ _ _ h => h) ?_ (by assumption) ?_; rotate_left 2; (focus (simp only [List.getElem?_toArray, List.getElem?_cons_succ, List.getElem?_cons_zero] <;> rfl)); (focus (refine Or.inl ⟨by rfl, ?_⟩; intro w hSw; go_simp <;> with_reducible rfl)); (try simp only [Act.put, List.setIfInBounds_toArray, List.set_cons_zero, List.set_cons_succ])))
    refine wpAnyH_ready (rs := [10]) (by decide +kernel) (by simp) ?_
    refine AllReadyH.cons rfl (fun K hK => ?_) AllReadyH.nil
    go_simp
    go_at_call 13
    refine (CT.out _ (F0.out _ BB2.out) (FR0.out _ BB2.out) (FR1.out _ BB2.out)).mono ?_
    rintro e wz2 ⟨rfl, hb⟩
    have BB3 := Lib.hid (belG BB2.out hb BB2.out.size)
    clear hb
    refine hK.out _ _ BB3.out (fun hHeld => ?_)
    clear hK K
    (try simp only [Act.put, List.setIfInBounds_toArray, List.set_cons_zero, List.set_cons_succ])
    repeat (first
      | (refine wpAnyH_take (i := 0) (oi := ?_) (v := .agg (hubC x h)) ?_ (by kernel_rfl) (by decide +kernel) (by decide +kernel) (fun _ _ _ h => h) ?_ (by assumption) ?_; rotate_left 1; (focus (simp only [List.getElem?_toArray, List.getElem?_cons_succ, List.getElem?_cons_zero] <;> rfl)); (focus (refine yields_hub ?_ (.tmp 2) ?_ (W.heap.size) ?_ (hubC x h) ?_; (focus rfl); (focus exact rfl); (focus exact rfl); exact fun w (hSw : Below w4.heap.size w4 w) => run_loadHb (BoxH.old G0.out hSw (Nat.le_refl _)))); (try simp only [Act.put, List.setIfInBounds_toArray, List.set_cons_zero, List.set_cons_succ]))
      | (refine wpAnyH_take (i := 2) (oi := ?_) (v := ?_) ?_ (by kernel_rfl) (by decide +kernel) (by decide +kernel) (fun _ _ _ h => h) ?_ (by assumption) ?_; rotate_left 2; (focus (simp only [List.getElem?_toArray, List.getElem?_cons_succ, List.getElem?_cons_zero] <;> rfl)); (focus (refine Or.inl ⟨by rfl, ?_⟩; intro w hSw; go_simp <;> with_reducible rfl)); (try simp only [Act.put, List.setIfInBounds_toArray, List.set_cons_zero, List.set_cons_succ]))
      | (refine wpAnyH_take (i := 3) (oi := ?_) (v := ?_) ?_ (by kernel_rfl) (by decide +kernel) (by decide +kernel) (fun _ _ _ h => h) ?_ (by assumption) ?_; rotate_left 2; (focus (simp only [List.getElem?_toArray, List.getElem?_cons_succ, List.getElem?_cons_zero] <;> rfl)); (focus (refine Or.inl ⟨by rfl, ?_⟩; intro w hSw; go_simp <;> with_reducible rfl)); (try simp only [Act.put, List.setIfInBounds_toArray, List.set_cons_zero, List.set_cons_succ]))
      | (refine wpAnyH_take (i := 4) (oi := ?_) (v := ?_) ?_ (by kernel_rfl) (by decide +kernel) (by decide +kernel) (fun _ _ _ h => h) ?_ (by assumption) ?_; rotate_left 2; (focus (simp only [List.getElem?_toArray, List.getElem?_cons_succ, List.getElem?_cons_zero] <;> rfl)); (focus (refine Or.inl ⟨by rfl, ?_⟩; intro w hSw; go_simp <;> with_reducible rfl)); (try simp only [Act.put, List.setIfInBounds_toArray, List.set_cons_zero, List.set_cons_succ]))
      | (refine wpAnyH_take (i := 5) (oi := ?_) (v := .agg (hubC x h)) ?_ (by kernel_rfl) (by decide +kernel) (by decide +kernel) (fun _ _ _ h => h) ?_ (by assumption) ?_; rotate_left 1; (focus (simp only [List.getElem?_toArray, List.getElem?_cons_succ, List.getElem?_cons_zero] <;> rfl)); (focus (refine yields_hub ?_ (.tmp 2) ?_ (W.heap.size) ?_ (hubC x h) ?_; (focus rfl); (focus exact rfl); (focus exact rfl); exact fun w (hSw : Below w4.heap.size w4 w) => run_loadHb (BoxH.old G0.out hSw (Nat.le_refl _)))); (try simp only [Act.put, List.setIfInBounds_toArray, List.set_cons_zero, List.set_cons_succ]))
      | (refine wpAnyH_take (i := 6) (oi := ?_) (v := .agg (hubC y r)) ?_ (by kernel_rfl) (by decide +kernel) (by decide +kernel) (fun _ _ _ h => h) ?_ (by assumption) ?_; rotate_left 1; (focus (simp only [List.getElem?_toArray, List.getElem?_cons_succ, List.getElem?_cons_zero] <;> rfl)); (focus (refine yields_hub ?_ (.tmp 3) ?_ ((W.heap.size + 1)) ?_ (hubC y r) ?_; (focus rfl); (focus exact rfl); (focus exact rfl); exact fun w (hSw : Below w4.heap.size w4 w) => run_loadHb (BoxH.old G1.out hSw (Nat.le_refl _)))); (try simp only [Act.put, List.setIfInBounds_toArray, List.set_cons_zero, List.set_cons_succ]))
      | (refine wpAnyH_take (i := 8) (oi := ?_) (v := .agg (hubC x h)) ?_ (by kernel_rfl) (by decide +kernel) (by decide +kernel) (fun _ _ _ h => h) ?_ (by assumption) ?_; rotate_left 1; (focus (simp only [List.getElem?_toArray, List.getElem?_cons_succ, List.getElem?_cons_zero] <;> rfl)); (focus (refine yields_hub ?_ (.tmp 2) ?_ (W.heap.size) ?_ (hubC x h) ?_; (focus rfl); (focus exact rfl); (focus exact rfl); exact fun w (hSw : Below w4.heap.size w4 w) => run_loadHb (BoxH.old G0.out hSw (Nat.le_refl _)))); (try simp only [Act.put, List.setIfInBounds_toArray, List.set_cons_zero, List.set_cons_succ]))
      | (refine wpAnyH_take (i := 9) (oi := ?_) (v := .agg (hubC y r)) ?_ (by kernel_rfl) (by decide +kernel) (by decide +kernel) (fun _ _ _ h => h) ?_ (by assumption) ?_; rotate_left 1; (focus (simp only [List.getElem?_toArray, List.getElem?_cons_succ, List.getElem?_cons_zero] <;> rfl)); (focus (refine yields_hub ?_ (.tmp 3) ?_ ((W.heap.size + 1)) ?_ (hubC y r) ?_; (focus rfl); (focus exact rfl); (focus exact rfl); exact fun w (hSw : Below w4.heap.size w4 w) => run_loadHb (BoxH.old G1.out hSw (Nat.le_refl _)))); (try simp only [Act.put, List.setIfInBounds_toArray, List.set_cons_zero, List.set_cons_succ]))
      | (refine wpAnyH_take (i := 11) (oi := ?_) (v := ?_) ?_ (by kernel_rfl) (by decide +kernel) (by decide +kernel) (fun _ _ _ h => h) ?_ (by assumption) ?_; rotate_left 2; (focus (simp only [List.getElem?_toArray, List.getElem?_cons_succ, List.getElem?_cons_zero] <;> rfl)); (focus (refine Or.inl ⟨by rfl, ?_⟩; intro w hSw; go_simp <;> with_reducible rfl)); (try simp only [Act.put, List.setIfInBounds_toArray, List.set_cons_zero, List.set_cons_succ]))
      | (refine wpAnyH_take (i := 12) (oi := ?_) (v := ?_) ?_ (by kernel_rfl) (by decide +kernel) (by decide +kernel) (fun _ _ _ h => h) ?_ (by assumption) ?_; rotate_left 2; (focus (simp only [List.getElem?_toArray, List.getElem?_cons_succ, List.getElem?_cons_zero] <;> rfl)); (focus (refine Or.inl ⟨by rfl, ?_⟩; intro w hSw; go_simp <;> with_reducible rfl)); (try simp only [Act.put, List.setIfInBounds_toArray, List.set_cons_zero, List.set_cons_succ])))
    refine wpAnyH_done (by decide +kernel) ?_ _
    refine NoPanic.normal ?_
    have nHB := Lib.hid (F0.out _ BB3.out)
    have nR0 := Lib.hid (FR0.out _ BB3.out)
    have nR1 := Lib.hid (FR1.out _ BB3.out)
    have nG0 := Lib.hid (BoxH.old G0.out BB3.out (Nat.le_refl _))
    have nG1 := Lib.hid (BoxH.old G1.out BB3.out (Nat.le_refl _))
    clear F0 FR0 FR1
    clear HB R0 R1 G0 G1
    have HB := nHB
    have R0 := nR0
    have R1 := nR1
    have G0 := nG0
    have G1 := nG1
    clear nHB nR0 nR1 nG0 nG1
    go_wp2_with (first | (refine loadHb _ (.tmp 2) W.heap.size x h G0.out rfl rfl rfl ?_) | (refine loadHb _ (.tmp 3) (W.heap.size + 1) y r G1.out rfl rfl rfl ?_))
    go_ret
    exact ⟨by first | rfl | simp, HB.out⟩
  have CP := Lib.hid (fun w (hB : Below W.heap.size W w) (k : HubR w x h) => hPick_any x h w hR HL.out k)
  have CO := Lib.hid (fun w (hB : Below W.heap.size W w) (k : HubR w x h) => refPick_any x h w k hR.2)
  obtain ⟨E, hE⟩ : ∃ E, E = pickR h := ⟨_, rfl⟩
  rw [← hE] at CP CO
  have HEQ := Lib.hid hE
  simp only [decide_eq_true hR] at CR CQ
  generalize decide (SameHb h r) = FS at *
  generalize anyH h = FA at *
  have eS : (FS != FS) = false := by simp
  have eA : (FA == FA) = true := by simp
  have CZ := Lib.hid (fun (x1 x2 : Wh) w (k1 : HubR w x1 E.1) (k2 : HubR w x2 E.1) => refSame9_any x1 x2 E.1 E.1 w k1 k2)
  simp only [decide_eq_true (SameHb.refl E.1)] at CZ
  generalize E.2.1 = ec at *
  generalize E.2.2 = ee at *
  have e1 : (ec == ec) = true := by simp
  have e2 : (ee == ee) = true := by simp
  clear hl hr hl2 hr2 hE
  obtain ⟨V0, C, D, hC, hD, hV, hb, hg, hg2⟩ := boxH2 W x y h r
  have HB := Lib.hid hb
  have G0 := Lib.hid hg
  have G1 := Lib.hid hg2
  have nR0 := Lib.hid ((R0.out.below hb (Nat.le_refl _)).more hb.size)
  have nR1 := Lib.hid ((R1.out.below hb (Nat.le_refl _)).more hb.size)
  have HV := Lib.hid hV
  rw [← hC, ← hD]
  clear hb hg hg2 hV hC hD
  clear R0 R1
  have R0 := nR0
  have R1 := nR1
  clear nR0 nR1
  go_enter Try.func3, Try.ntmps3
  go_upto_region 1 with (fail)
  rw [← HV.out]
  clear HV
  go_wp2_with fail
  refine (shown9_any _).mono ?_
  rintro e w1 ⟨rfl, hb⟩
  have nHB := Lib.hid (belG HB.out hb HB.out.size)
  have nR0 := Lib.hid ((R0.out.below hb (Nat.le_refl _)).more hb.size)
  have nR1 := Lib.hid ((R1.out.below hb (Nat.le_refl _)).more hb.size)
  have nG0 := Lib.hid (oldG G0.out hb (Nat.le_refl _))
  have nG1 := Lib.hid (oldG G1.out hb (Nat.le_refl _))
  clear hb
  clear HB R0 R1 G0 G1
  have HB := nHB
  have R0 := nR0
  have R1 := nR1
  have G0 := nG0
  have G1 := nG1
  clear nHB nR0 nR1 nG0 nG1
  go_wp2_with (first | (refine loadHb _ (.tmp 2) W.heap.size x h G0.out rfl rfl rfl ?_) | (refine loadHb _ (.tmp 3) (W.heap.size + 1) y r G1.out rfl rfl rfl ?_))
  refine (CF.out _).mono ?_
  rintro e w2 ⟨rfl, hb⟩
  have nHB := Lib.hid (belG HB.out hb HB.out.size)
  have nR0 := Lib.hid ((R0.out.below hb (Nat.le_refl _)).more hb.size)
  have nR1 := Lib.hid ((R1.out.below hb (Nat.le_refl _)).more hb.size)
  have nG0 := Lib.hid (oldG G0.out hb (Nat.le_refl _))
  have nG1 := Lib.hid (oldG G1.out hb (Nat.le_refl _))
  clear hb
  clear HB R0 R1 G0 G1
  have HB := nHB
  have R0 := nR0
  have R1 := nR1
  have G0 := nG0
  have G1 := nG1
  clear nHB nR0 nR1 nG0 nG1
  go_wp2_with (first | (refine loadHb _ (.tmp 2) W.heap.size x h G0.out rfl rfl rfl ?_) | (refine loadHb _ (.tmp 3) (W.heap.size + 1) y r G1.out rfl rfl rfl ?_))
  refine (CF2.out _).mono ?_
  rintro e w3 ⟨rfl, hb⟩
  have nHB := Lib.hid (belG HB.out hb HB.out.size)
  have nR0 := Lib.hid ((R0.out.below hb (Nat.le_refl _)).more hb.size)
  have nR1 := Lib.hid ((R1.out.below hb (Nat.le_refl _)).more hb.size)
  have nG0 := Lib.hid (oldG G0.out hb (Nat.le_refl _))
  have nG1 := Lib.hid (oldG G1.out hb (Nat.le_refl _))
  clear hb
  clear HB R0 R1 G0 G1
  have HB := nHB
  have R0 := nR0
  have R1 := nR1
  have G0 := nG0
  have G1 := nG1
  clear nHB nR0 nR1 nG0 nG1
  go_wp2_with (first | (refine loadHb _ (.tmp 2) W.heap.size x h G0.out rfl rfl rfl ?_) | (refine loadHb _ (.tmp 3) (W.heap.size + 1) y r G1.out rfl rfl rfl ?_))
  refine (CR.out _ HB.out R0.out).mono ?_
  rintro e w4 ⟨rfl, hb⟩
  have nHB := Lib.hid (belG HB.out hb HB.out.size)
  have nR0 := Lib.hid ((R0.out.below hb (Nat.le_refl _)).more hb.size)
  have nR1 := Lib.hid ((R1.out.below hb (Nat.le_refl _)).more hb.size)
  have nG0 := Lib.hid (oldG G0.out hb (Nat.le_refl _))
  have nG1 := Lib.hid (oldG G1.out hb (Nat.le_refl _))
  clear hb
  clear HB R0 R1 G0 G1
  have HB := nHB
  have R0 := nR0
  have R1 := nR1
  have G0 := nG0
  have G1 := nG1
  clear nHB nR0 nR1 nG0 nG1
  have BB0 := Lib.hid ((Below.refl w4.heap.size w4).drew)
  have F0 := Lib.hid (fun w (h : Below w4.heap.size w4 w) => belG HB.out h HB.out.size)
  have FR0 := Lib.hid (fun w (h : Below w4.heap.size w4 w) => (R0.out.below h (Nat.le_refl _)).more h.size)
  have FR1 := Lib.hid (fun w (h : Below w4.heap.size w4 w) => (R1.out.below h (Nat.le_refl _)).more h.size)
  go_wp2_with (first | (refine loadHb _ (.tmp 2) W.heap.size x h G0.out rfl rfl rfl ?_) | (refine loadHb _ (.tmp 3) (W.heap.size + 1) y r G1.out rfl rfl rfl ?_))
  refine wp_region_noPanic ?_
  refine wp_region_held_drew (S := fun w' => Below w4.heap.size w4 w') (by kernel_rfl) BB0.out (fun hHeld => ?_)
  repeat (first
    | (refine wpAnyH_take (i := 0) (oi := ?_) (v := .agg (hubC x h)) ?_ (by kernel_rfl) (by decide +kernel) (by decide +kernel) (fun _ _ _ h => h) ?_ (by assumption) ?_; rotate_left 1; (focus (simp only [List.getElem?_toArray, List.getElem?_cons_zero] <;> rfl)); (focus (refine yields_hub ?_ (.tmp 2) ?_ (W.heap.size) ?_ (hubC x h) ?_; (focus rfl); (focus exact rfl); (focus exact rfl); exact fun w (hSw : Below w4.heap.size w4 w) => run_loadHb (BoxH.old G0.out hSw (Nat.le_refl _)))); (try simp only [Act.put, List.setIfInBounds_toArray, List.set_cons_zero, List.set_cons_succ]))
    | (refine wpAnyH_take (i := 2) (oi := ?_) (v := ?_) ?_ (by kernel_rfl) (by decide +kernel) (by decide +kernel) (fun _ _ _ h => h) ?_ (by assumption) ?_; rotate_left 2; (focus (simp only [List.getElem?_toArray, List.getElem?_cons_succ, List.getElem?_cons_zero] <;> rfl)); (focus (refine Or.inl ⟨by rfl, ?_⟩; intro w hSw; go_simp <;> with_reducible rfl)); (try simp only [Act.put, List.setIfInBounds_toArray, List.set_cons_zero, List.set_cons_succ]))
    | (refine wpAnyH_take (i := 3) (oi := ?_) (v := ?_) ?_ (by kernel_rfl) (by decide +kernel) (by decide +kernel) (fun _ _ _ h => h) ?_ (by assumption) ?_; rotate_left 2; (focus (simp only [List.getElem?_toArray, List.getElem?_cons_succ, List.getElem?_cons_zero] <;> rfl)); (focus (refine Or.inl ⟨by rfl, ?_⟩; intro w hSw; go_simp <;> with_reducible rfl)); (try simp only [Act.put, List.setIfInBounds_toArray, List.set_cons_zero, List.set_cons_succ]))
    | (refine wpAnyH_take (i := 4) (oi := ?_) (v := ?_) ?_ (by kernel_rfl) (by decide +kernel) (by decide +kernel) (fun _ _ _ h => h) ?_ (by assumption) ?_; rotate_left 2; (focus (simp only [List.getElem?_toArray, List.getElem?_cons_succ, List.getElem?_cons_zero] <;> rfl)); (focus (refine Or.inl ⟨by rfl, ?_⟩; intro w hSw; go_simp <;> with_reducible rfl)); (try simp only [Act.put, List.setIfInBounds_toArray, List.set_cons_zero, List.set_cons_succ]))
    | (refine wpAnyH_take (i := 5) (oi := ?_) (v := .agg (hubC x h)) ?_ (by kernel_rfl) (by decide +kernel) (by decide +kernel) (fun _ _ _ h => h) ?_ (by assumption) ?_; rotate_left 1; (focus (simp only [List.getElem?_toArray, List.getElem?_cons_succ, List.getElem?_cons_zero] <;> rfl)); (focus (refine yields_hub ?_ (.tmp 2) ?_ (W.heap.size) ?_ (hubC x h) ?_; (focus rfl); (focus exact rfl); (focus exact rfl); exact fun w (hSw : Below w4.heap.size w4 w) => run_loadHb (BoxH.old G0.out hSw (Nat.le_refl _)))); (try simp only [Act.put, List.setIfInBounds_toArray, List.set_cons_zero, List.set_cons_succ]))
    | (refine wpAnyH_take (i := 6) (oi := ?_) (v := .agg (hubC y r)) ?_ (by kernel_rfl) (by decide +kernel) (by decide +kernel) (fun _ _ _ h => h) ?_ (by assumption) ?_; rotate_left 1; (focus (simp only [List.getElem?_toArray, List.getElem?_cons_succ, List.getElem?_cons_zero] <;> rfl)); (focus (refine yields_hub ?_ (.tmp 3) ?_ ((W.heap.size + 1)) ?_ (hubC y r) ?_; (focus rfl); (focus exact rfl); (focus exact rfl); exact fun w (hSw : Below w4.heap.size w4 w) => run_loadHb (BoxH.old G1.out hSw (Nat.le_refl _)))); (try simp only [Act.put, List.setIfInBounds_toArray, List.set_cons_zero, List.set_cons_succ]))
    | (refine wpAnyH_take (i := 8) (oi := ?_) (v := .agg (hubC x h)) ?_ (by kernel_rfl) (by decide +kernel) (by decide +kernel) (fun _ _ _ h => h) ?_ (by assumption) ?_; rotate_left 1; (focus (simp only [List.getElem?_toArray, List.getElem?_cons_succ, List.getElem?_cons_zero] <;> rfl)); (focus (refine yields_hub ?_ (.tmp 2) ?_ (W.heap.size) ?_ (hubC x h) ?_; (focus rfl); (focus exact rfl); (focus exact rfl); exact fun w (hSw : Below w4.heap.size w4 w) => run_loadHb (BoxH.old G0.out hSw (Nat.le_refl _)))); (try simp only [Act.put, List.setIfInBounds_toArray, List.set_cons_zero, List.set_cons_succ]))
    | (refine wpAnyH_take (i := 9) (oi := ?_) (v := .agg (hubC y r)) ?_ (by kernel_rfl) (by decide +kernel) (by decide +kernel) (fun _ _ _ h => h) ?_ (by assumption) ?_; rotate_left 1; (focus (simp only [List.getElem?_toArray, List.getElem?_cons_succ, List.getElem?_cons_zero] <;> rfl)); (focus (refine yields_hub ?_ (.tmp 3) ?_ ((W.heap.size + 1)) ?_ (hubC y r) ?_; (focus rfl); (focus exact rfl); (focus exact rfl); exact fun w (hSw : Below w4.heap.size w4 w) => run_loadHb (BoxH.old G1.out hSw (Nat.le_refl _)))); (try simp only [Act.put, List.setIfInBounds_toArray, List.set_cons_zero, List.set_cons_succ]))
    | (refine wpAnyH_take (i := 11) (oi := ?_) (v := ?_) ?_ (by kernel_rfl) (by decide +kernel) (by decide +kernel) (fun _ _ _ h => h) ?_ (by assumption) ?_; rotate_left 2; (focus (simp only [List.getElem?_toArray, List.getElem?_cons_succ, List.getElem?_cons_zero] <;> rfl)); (focus (refine Or.inl ⟨by rfl, ?_⟩; intro w hSw; go_simp <;> with_reducible rfl)); (try simp only [Act.put, List.setIfInBounds_toArray, List.set_cons_zero, List.set_cons_succ]))
    | (refine wpAnyH_take (i := 12) (oi := ?_) (v := ?_) ?_ (by kernel_rfl) (by decide +kernel) (by decide +kernel) (fun _ _ _ h => h) ?_ (by assumption) ?_; rotate_left 2; (focus (simp only [List.getElem?_toArray, List.getElem?_cons_succ, List.getElem?_cons_zero] <;> rfl)); (focus (refine Or.inl ⟨by rfl, ?_⟩; intro w hSw; go_simp <;> with_reducible rfl)); (try simp only [Act.put, List.setIfInBounds_toArray, List.set_cons_zero, List.set_cons_succ])))
  refine wpAnyH_ready (rs := [1]) (by decide +kernel) (by simp) ?_
  refine AllReadyH.cons rfl (fun K hK => ?_) AllReadyH.nil
  go_simp
  go_at_call 11
  refine (CQ.out _ (F0.out _ BB0.out) (FR0.out _ BB0.out)).mono ?_
  rintro e wz0 ⟨rfl, hb⟩
  have BB1 := Lib.hid (belG BB0.out hb BB0.out.size)
  clear hb
  refine hK.out _ _ BB1.out (fun hHeld => ?_)
  clear hK K
  (try simp only [Act.put, List.setIfInBounds_toArray, List.set_cons_zero, List.set_cons_succ])
  repeat (first
    | (refine wpAnyH_take (i := 0) (oi := ?_) (v := .agg (hubC x h)) ?_ (by kernel_rfl) (by decide +kernel) (by decide +kernel) (fun _ _ _ h => h) ?_ (by assumption) ?_; rotate_left 1; (focus (simp only [List.getElem?_toArray, List.getElem?_cons_succ, List.getElem?_cons_zero] <;> rfl)); (focus (refine yields_hub ?_ (.tmp 2) ?_ (W.heap.size) ?_ (hubC x h) ?_; (focus rfl); (focus exact rfl); (focus exact rfl); exact fun w (hSw : Below w4.heap.size w4 w) => run_loadHb (BoxH.old G0.out hSw (Nat.le_refl _)))); (try simp only [Act.put, List.setIfInBounds_toArray, List.set_cons_zero, List.set_cons_succ]))
    | (refine wpAnyH_take (i := 2) (oi := ?_) (v := ?_) ?_ (by kernel_rfl) (by decide +kernel) (by decide +kernel) (fun _ _ _ h => h) ?_ (by assumption) ?_; rotate_left 2; (focus (simp only [List.getElem?_toArray, List.getElem?_cons_succ, List.getElem?_cons_zero] <;> rfl)); (focus (refine Or.inl ⟨by rfl, ?_⟩; intro w hSw; go_simp <;> with_reducible rfl)); (try simp only [Act.put, List.setIfInBounds_toArray, List.set_cons_zero, List.set_cons_succ]))
    | (refine wpAnyH_take (i := 3) (oi := ?_) (v := ?_) ?_ (by kernel_rfl) (by decide +kernel) (by decide +kernel) (fun _ _ _ h => h) ?_ (by assumption) ?_; rotate_left 2; (focus (simp only [List.getElem?_toArray, List.getElem?_cons_succ, List.getElem?_cons_zero] <;> rfl)); (focus (refine Or.inl ⟨by rfl, ?_⟩; intro w hSw; go_simp <;> with_reducible rfl)); (try simp only [Act.put, List.setIfInBounds_toArray, List.set_cons_zero, List.set_cons_succ]))
    | (refine wpAnyH_take (i := 4) (oi := ?_) (v := ?_) ?_ (by kernel_rfl) (by decide +kernel) (by decide +kernel) (fun _ _ _ h => h) ?_ (by assumption) ?_; rotate_left 2; (focus (simp only [List.getElem?_toArray, List.getElem?_cons_succ, List.getElem?_cons_zero] <;> rfl)); (focus (refine Or.inl ⟨by rfl, ?_⟩; intro w hSw; go_simp <;> with_reducible rfl)); (try simp only [Act.put, List.setIfInBounds_toArray, List.set_cons_zero, List.set_cons_succ]))
    | (refine wpAnyH_take (i := 5) (oi := ?_) (v := .agg (hubC x h)) ?_ (by kernel_rfl) (by decide +kernel) (by decide +kernel) (fun _ _ _ h => h) ?_ (by assumption) ?_; rotate_left 1; (focus (simp only [List.getElem?_toArray, List.getElem?_cons_succ, List.getElem?_cons_zero] <;> rfl)); (focus (refine yields_hub ?_ (.tmp 2) ?_ (W.heap.size) ?_ (hubC x h) ?_; (focus rfl); (focus exact rfl); (focus exact rfl); exact fun w (hSw : Below w4.heap.size w4 w) => run_loadHb (BoxH.old G0.out hSw (Nat.le_refl _)))); (try simp only [Act.put, List.setIfInBounds_toArray, List.set_cons_zero, List.set_cons_succ]))
    | (refine wpAnyH_take (i := 6) (oi := ?_) (v := .agg (hubC y r)) ?_ (by kernel_rfl) (by decide +kernel) (by decide +kernel) (fun _ _ _ h => h) ?_ (by assumption) ?_; rotate_left 1; (focus (simp only [List.getElem?_toArray, List.getElem?_cons_succ, List.getElem?_cons_zero] <;> rfl)); (focus (refine yields_hub ?_ (.tmp 3) ?_ ((W.heap.size + 1)) ?_ (hubC y r) ?_; (focus rfl); (focus exact rfl); (focus exact rfl); exact fun w (hSw : Below w4.heap.size w4 w) => run_loadHb (BoxH.old G1.out hSw (Nat.le_refl _)))); (try simp only [Act.put, List.setIfInBounds_toArray, List.set_cons_zero, List.set_cons_succ]))
    | (refine wpAnyH_take (i := 8) (oi := ?_) (v := .agg (hubC x h)) ?_ (by kernel_rfl) (by decide +kernel) (by decide +kernel) (fun _ _ _ h => h) ?_ (by assumption) ?_; rotate_left 1; (focus (simp only [List.getElem?_toArray, List.getElem?_cons_succ, List.getElem?_cons_zero] <;> rfl)); (focus (refine yields_hub ?_ (.tmp 2) ?_ (W.heap.size) ?_ (hubC x h) ?_; (focus rfl); (focus exact rfl); (focus exact rfl); exact fun w (hSw : Below w4.heap.size w4 w) => run_loadHb (BoxH.old G0.out hSw (Nat.le_refl _)))); (try simp only [Act.put, List.setIfInBounds_toArray, List.set_cons_zero, List.set_cons_succ]))
    | (refine wpAnyH_take (i := 9) (oi := ?_) (v := .agg (hubC y r)) ?_ (by kernel_rfl) (by decide +kernel) (by decide +kernel) (fun _ _ _ h => h) ?_ (by assumption) ?_; rotate_left 1; (focus (simp only [List.getElem?_toArray, List.getElem?_cons_succ, List.getElem?_cons_zero] <;> rfl)); (focus (refine yields_hub ?_ (.tmp 3) ?_ ((W.heap.size + 1)) ?_ (hubC y r) ?_; (focus rfl); (focus exact rfl); (focus exact rfl); exact fun w (hSw : Below w4.heap.size w4 w) => run_loadHb (BoxH.old G1.out hSw (Nat.le_refl _)))); (try simp only [Act.put, List.setIfInBounds_toArray, List.set_cons_zero, List.set_cons_succ]))
    | (refine wpAnyH_take (i := 11) (oi := ?_) (v := ?_) ?_ (by kernel_rfl) (by decide +kernel) (by decide +kernel) (fun _ _ _ h => h) ?_ (by assumption) ?_; rotate_left 2; (focus (simp only [List.getElem?_toArray, List.getElem?_cons_succ, List.getElem?_cons_zero] <;> rfl)); (focus (refine Or.inl ⟨by rfl, ?_⟩; intro w hSw; go_simp <;> with_reducible rfl)); (try simp only [Act.put, List.setIfInBounds_toArray, List.set_cons_zero, List.set_cons_succ]))
    | (refine wpAnyH_take (i := 12) (oi := ?_) (v := ?_) ?_ (by kernel_rfl) (by decide +kernel) (by decide +kernel) (fun _ _ _ h => h) ?_ (by assumption) ?_; rotate_left 2; (focus (simp only [List.getElem?_toArray, List.getElem?_cons_succ, List.getElem?_cons_zero] <;> rfl)); (focus (refine Or.inl ⟨by rfl, ?_⟩; intro w hSw; go_simp <;> with_reducible rfl)); (try simp only [Act.put, List.setIfInBounds_toArray, List.set_cons_zero, List.set_cons_succ])))
  refine wpAnyH_ready (rs := [7]) (by decide +kernel) (by simp) ?_
  refine AllReadyH.cons rfl (fun K hK => ?_) AllReadyH.nil
  go_simp
  go_at_call 12
  refine (CS.out _ (F0.out _ BB1.out) (FR0.out _ BB1.out) (FR1.out _ BB1.out)).mono ?_
  rintro e wz1 ⟨rfl, hb⟩
  have BB2 := Lib.hid (belG BB1.out hb BB1.out.size)
  clear hb
  refine hK.out _ _ BB2.out (fun hHeld => ?_)
  clear hK K
  (try simp only [Act.put, List.setIfInBounds_toArray, List.set_cons_zero, List.set_cons_succ])
  repeat (first
    | (refine wpAnyH_take (i := 0) (oi := ?_) (v := .agg (hubC x h)) ?_ (by kernel_rfl) (by decide +kernel) (by decide +kernel) (fun _ _ _ h => h) ?_ (by assumption) ?_; rotate_left 1; (focus (simp only [List.getElem?_toArray, List.getElem?_cons_succ, List.getElem?_cons_zero] <;> rfl)); (focus (refine yields_hub ?_ (.tmp 2) ?_ (W.heap.size) ?_ (hubC x h) ?_; (focus rfl); (focus exact rfl); (focus exact rfl); exact fun w (hSw : Below w4.heap.size w4 w) => run_loadHb (BoxH.old G0.out hSw (Nat.le_refl _)))); (try simp only [Act.put, List.setIfInBounds_toArray, List.set_cons_zero, List.set_cons_succ]))
    | (refine wpAnyH_take (i := 2) (oi := ?_) (v := ?_) ?_ (by kernel_rfl) (by decide +kernel) (by decide +kernel) (fun _ _ _ h => h) ?_ (by assumption) ?_; rotate_left 2; (focus (simp only [List.getElem?_toArray, List.getElem?_cons_succ, List.getElem?_cons_zero] <;> rfl)); (focus (refine Or.inl ⟨by rfl, ?_⟩; intro w hSw; go_simp <;> with_reducible rfl)); (try simp only [Act.put, List.setIfInBounds_toArray, List.set_cons_zero, List.set_cons_succ]))
    | (refine wpAnyH_take (i := 3) (oi := ?_) (v := ?_) ?_ (by kernel_rfl) (by decide +kernel) (by decide +kernel) (fun _ _ _ h => h) ?_ (by assumption) ?_; rotate_left 2; (focus (simp only [List.getElem?_toArray, List.getElem?_cons_succ, List.getElem?_cons_zero] <;> rfl)); (focus (refine Or.inl ⟨by rfl, ?_⟩; intro w hSw; go_simp <;> with_reducible rfl)); (try simp only [Act.put, List.setIfInBounds_toArray, List.set_cons_zero, List.set_cons_succ]))
    | (refine wpAnyH_take (i := 4) (oi := ?_) (v := ?_) ?_ (by kernel_rfl) (by decide +kernel) (by decide +kernel) (fun _ _ _ h => h) ?_ (by assumption) ?_; rotate_left 2; (focus (simp only [List.getElem?_toArray, List.getElem?_cons_succ, List.getElem?_cons_zero] <;> rfl)); (focus (refine Or.inl ⟨by rfl, ?_⟩; intro w hSw; go_simp <;> with_reducible rfl)); (try simp only [Act.put, List.setIfInBounds_toArray, List.set_cons_zero, List.set_cons_succ]))
    | (refine wpAnyH_take (i := 5) (oi := ?_) (v := .agg (hubC x h)) ?_ (by kernel_rfl) (by decide +kernel) (by decide +kernel) (fun _ _ _ h => h) ?_ (by assumption) ?_; rotate_left 1; (focus (simp only [List.getElem?_toArray, List.getElem?_cons_succ, List.getElem?_cons_zero] <;> rfl)); (focus (refine yields_hub ?_ (.tmp 2) ?_ (W.heap.size) ?_ (hubC x h) ?_; (focus rfl); (focus exact rfl); (focus exact rfl); exact fun w (hSw : Below w4.heap.size w4 w) => run_loadHb (BoxH.old G0.out hSw (Nat.le_refl _)))); (try simp only [Act.put, List.setIfInBounds_toArray, List.set_cons_zero, List.set_cons_succ]))
    | (refine wpAnyH_take (i := 6) (oi := ?_) (v := .agg (hubC y r)) ?_ (by kernel_rfl) (by decide +kernel) (by decide +kernel) (fun _ _ _ h => h) ?_ (by assumption) ?_; rotate_left 1; (focus (simp only [List.getElem?_toArray, List.getElem?_cons_succ, List.getElem?_cons_zero] <;> rfl)); (focus (refine yields_hub ?_ (.tmp 3) ?_ ((W.heap.size + 1)) ?_ (hubC y r) ?_; (focus rfl); (focus exact rfl); (focus exact rfl); exact fun w (hSw : Below w4.heap.size w4 w) => run_loadHb (BoxH.old G1.out hSw (Nat.le_refl _)))); (try simp only [Act.put, List.setIfInBounds_toArray, List.set_cons_zero, List.set_cons_succ]))
    | (refine wpAnyH_take (i := 8) (oi := ?_) (v := .agg (hubC x h)) ?_ (by kernel_rfl) (by decide +kernel) (by decide +kernel) (fun _ _ _ h => h) ?_ (by assumption) ?_; rotate_left 1; (focus (simp only [List.getElem?_toArray, List.getElem?_cons_succ, List.getElem?_cons_zero] <;> rfl)); (focus (refine yields_hub ?_ (.tmp 2) ?_ (W.heap.size) ?_ (hubC x h) ?_; (focus rfl); (focus exact rfl); (focus exact rfl); exact fun w (hSw : Below w4.heap.size w4 w) => run_loadHb (BoxH.old G0.out hSw (Nat.le_refl _)))); (try simp only [Act.put, List.setIfInBounds_toArray, List.set_cons_zero, List.set_cons_succ]))
    | (refine wpAnyH_take (i := 9) (oi := ?_) (v := .agg (hubC y r)) ?_ (by kernel_rfl) (by decide +kernel) (by decide +kernel) (fun _ _ _ h => h) ?_ (by assumption) ?_; rotate_left 1; (focus (simp only [List.getElem?_toArray, List.getElem?_cons_succ, List.getElem?_cons_zero] <;> rfl)); (focus (refine yields_hub ?_ (.tmp 3) ?_ ((W.heap.size + 1)) ?_ (hubC y r) ?_; (focus rfl); (focus exact rfl); (focus exact rfl); exact fun w (hSw : Below w4.heap.size w4 w) => run_loadHb (BoxH.old G1.out hSw (Nat.le_refl _)))); (try simp only [Act.put, List.setIfInBounds_toArray, List.set_cons_zero, List.set_cons_succ]))
    | (refine wpAnyH_take (i := 11) (oi := ?_) (v := ?_) ?_ (by kernel_rfl) (by decide +kernel) (by decide +kernel) (fun _ _ _ h => h) ?_ (by assumption) ?_; rotate_left 2; (focus (simp only [List.getElem?_toArray, List.getElem?_cons_succ, List.getElem?_cons_zero] <;> rfl)); (focus (refine Or.inl ⟨by rfl, ?_⟩; intro w hSw; go_simp <;> with_reducible rfl)); (try simp only [Act.put, List.setIfInBounds_toArray, List.set_cons_zero, List.set_cons_succ]))
    | (refine wpAnyH_take (i := 12) (oi := ?_) (v := ?_) ?_ (by kernel_rfl) (by decide +kernel) (by decide +kernel) (fun _ _ _ h => h) ?_ (by assumption) ?_; rotate_left 2; (focus (simp only [List.getElem?_toArray, List.getElem?_cons_succ, List.getElem?_cons_zero] <;> rfl)); (focus (refine Or.inl ⟨by rfl, ?_⟩; intro w hSw; go_simp <;> with_reducible rfl)); (try simp only [Act.put, List.setIfInBounds_toArray, List.set_cons_zero, List.set_cons_succ])))
  refine wpAnyH_ready (rs := [10]) (by decide +kernel) (by simp) ?_
  refine AllReadyH.cons rfl (fun K hK => ?_) AllReadyH.nil
  go_simp
  go_at_call 13
  refine (CT.out _ (F0.out _ BB2.out) (FR0.out _ BB2.out) (FR1.out _ BB2.out)).mono ?_
  rintro e wz2 ⟨rfl, hb⟩
  have BB3 := Lib.hid (belG BB2.out hb BB2.out.size)
  clear hb
  refine hK.out _ _ BB3.out (fun hHeld => ?_)
  clear hK K
  (try simp only [Act.put, List.setIfInBounds_toArray, List.set_cons_zero, List.set_cons_succ])
  repeat (first
    | (refine wpAnyH_take (i := 0) (oi := ?_) (v := .agg (hubC x h)) ?_ (by kernel_rfl) (by decide +kernel) (by decide +kernel) (fun _ _ _ h => h) ?_ (by assumption) ?_; rotate_left 1; (focus (simp only [List.getElem?_toArray, List.getElem?_cons_succ, List.getElem?_cons_zero] <;> rfl)); (focus (refine yields_hub ?_ (.tmp 2) ?_ (W.heap.size) ?_ (hubC x h) ?_; (focus rfl); (focus exact rfl); (focus exact rfl); exact fun w (hSw : Below w4.heap.size w4 w) => run_loadHb (BoxH.old G0.out hSw (Nat.le_refl _)))); (try simp only [Act.put, List.setIfInBounds_toArray, List.set_cons_zero, List.set_cons_succ]))
    | (refine wpAnyH_take (i := 2) (oi := ?_) (v := ?_) ?_ (by kernel_rfl) (by decide +kernel) (by decide +kernel) (fun _ _ _ h => h) ?_ (by assumption) ?_; rotate_left 2; (focus (simp only [List.getElem?_toArray, List.getElem?_cons_succ, List.getElem?_cons_zero] <;> rfl)); (focus (refine Or.inl ⟨by rfl, ?_⟩; intro w hSw; go_simp <;> with_reducible rfl)); (try simp only [Act.put, List.setIfInBounds_toArray, List.set_cons_zero, List.set_cons_succ]))
    | (refine wpAnyH_take (i := 3) (oi := ?_) (v := ?_) ?_ (by kernel_rfl) (by decide +kernel) (by decide +kernel) (fun _ _ _ h => h) ?_ (by assumption) ?_; rotate_left 2; (focus (simp only [List.getElem?_toArray, List.getElem?_cons_succ, List.getElem?_cons_zero] <;> rfl)); (focus (refine Or.inl ⟨by rfl, ?_⟩; intro w hSw; go_simp <;> with_reducible rfl)); (try simp only [Act.put, List.setIfInBounds_toArray, List.set_cons_zero, List.set_cons_succ]))
    | (refine wpAnyH_take (i := 4) (oi := ?_) (v := ?_) ?_ (by kernel_rfl) (by decide +kernel) (by decide +kernel) (fun _ _ _ h => h) ?_ (by assumption) ?_; rotate_left 2; (focus (simp only [List.getElem?_toArray, List.getElem?_cons_succ, List.getElem?_cons_zero] <;> rfl)); (focus (refine Or.inl ⟨by rfl, ?_⟩; intro w hSw; go_simp <;> with_reducible rfl)); (try simp only [Act.put, List.setIfInBounds_toArray, List.set_cons_zero, List.set_cons_succ]))
    | (refine wpAnyH_take (i := 5) (oi := ?_) (v := .agg (hubC x h)) ?_ (by kernel_rfl) (by decide +kernel) (by decide +kernel) (fun _ _ _ h => h) ?_ (by assumption) ?_; rotate_left 1; (focus (simp only [List.getElem?_toArray, List.getElem?_cons_succ, List.getElem?_cons_zero] <;> rfl)); (focus (refine yields_hub ?_ (.tmp 2) ?_ (W.heap.size) ?_ (hubC x h) ?_; (focus rfl); (focus exact rfl); (focus exact rfl); exact fun w (hSw : Below w4.heap.size w4 w) => run_loadHb (BoxH.old G0.out hSw (Nat.le_refl _)))); (try simp only [Act.put, List.setIfInBounds_toArray, List.set_cons_zero, List.set_cons_succ]))
    | (refine wpAnyH_take (i := 6) (oi := ?_) (v := .agg (hubC y r)) ?_ (by kernel_rfl) (by decide +kernel) (by decide +kernel) (fun _ _ _ h => h) ?_ (by assumption) ?_; rotate_left 1; (focus (simp only [List.getElem?_toArray, List.getElem?_cons_succ, List.getElem?_cons_zero] <;> rfl)); (focus (refine yields_hub ?_ (.tmp 3) ?_ ((W.heap.size + 1)) ?_ (hubC y r) ?_; (focus rfl); (focus exact rfl); (focus exact rfl); exact fun w (hSw : Below w4.heap.size w4 w) => run_loadHb (BoxH.old G1.out hSw (Nat.le_refl _)))); (try simp only [Act.put, List.setIfInBounds_toArray, List.set_cons_zero, List.set_cons_succ]))
    | (refine wpAnyH_take (i := 8) (oi := ?_) (v := .agg (hubC x h)) ?_ (by kernel_rfl) (by decide +kernel) (by decide +kernel) (fun _ _ _ h => h) ?_ (by assumption) ?_; rotate_left 1; (focus (simp only [List.getElem?_toArray, List.getElem?_cons_succ, List.getElem?_cons_zero] <;> rfl)); (focus (refine yields_hub ?_ (.tmp 2) ?_ (W.heap.size) ?_ (hubC x h) ?_; (focus rfl); (focus exact rfl); (focus exact rfl); exact fun w (hSw : Below w4.heap.size w4 w) => run_loadHb (BoxH.old G0.out hSw (Nat.le_refl _)))); (try simp only [Act.put, List.setIfInBounds_toArray, List.set_cons_zero, List.set_cons_succ]))
    | (refine wpAnyH_take (i := 9) (oi := ?_) (v := .agg (hubC y r)) ?_ (by kernel_rfl) (by decide +kernel) (by decide +kernel) (fun _ _ _ h => h) ?_ (by assumption) ?_; rotate_left 1; (focus (simp only [List.getElem?_toArray, List.getElem?_cons_succ, List.getElem?_cons_zero] <;> rfl)); (focus (refine yields_hub ?_ (.tmp 3) ?_ ((W.heap.size + 1)) ?_ (hubC y r) ?_; (focus rfl); (focus exact rfl); (focus exact rfl); exact fun w (hSw : Below w4.heap.size w4 w) => run_loadHb (BoxH.old G1.out hSw (Nat.le_refl _)))); (try simp only [Act.put, List.setIfInBounds_toArray, List.set_cons_zero, List.set_cons_succ]))
    | (refine wpAnyH_take (i := 11) (oi := ?_) (v := ?_) ?_ (by kernel_rfl) (by decide +kernel) (by decide +kernel) (fun _ _ _ h => h) ?_ (by assumption) ?_; rotate_left 2; (focus (simp only [List.getElem?_toArray, List.getElem?_cons_succ, List.getElem?_cons_zero] <;> rfl)); (focus (refine Or.inl ⟨by rfl, ?_⟩; intro w hSw; go_simp <;> with_reducible rfl)); (try simp only [Act.put, List.setIfInBounds_toArray, List.set_cons_zero, List.set_cons_succ]))
    | (refine wpAnyH_take (i := 12) (oi := ?_) (v := ?_) ?_ (by kernel_rfl) (by decide +kernel) (by decide +kernel) (fun _ _ _ h => h) ?_ (by assumption) ?_; rotate_left 2; (focus (simp only [List.getElem?_toArray, List.getElem?_cons_succ, List.getElem?_cons_zero] <;> rfl)); (focus (refine Or.inl ⟨by rfl, ?_⟩; intro w hSw; go_simp <;> with_reducible rfl)); (try simp only [Act.put, List.setIfInBounds_toArray, List.set_cons_zero, List.set_cons_succ])))
  refine wpAnyH_done (by decide +kernel) ?_ _
  refine NoPanic.normal ?_
  have nHB := Lib.hid (F0.out _ BB3.out)
  have nR0 := Lib.hid (FR0.out _ BB3.out)
  have nR1 := Lib.hid (FR1.out _ BB3.out)
  have nG0 := Lib.hid (BoxH.old G0.out BB3.out (Nat.le_refl _))
  have nG1 := Lib.hid (BoxH.old G1.out BB3.out (Nat.le_refl _))
  clear F0 FR0 FR1
  clear HB R0 R1 G0 G1
  have HB := nHB
  have R0 := nR0
  have R1 := nR1
  have G0 := nG0
  have G1 := nG1
  clear nHB nR0 nR1 nG0 nG1
  go_wp2_with (first | (refine loadHb _ (.tmp 2) W.heap.size x h G0.out rfl rfl rfl ?_) | (refine loadHb _ (.tmp 3) (W.heap.size + 1) y r G1.out rfl rfl rfl ?_))
  refine (CP.out _ HB.out R0.out).mono ?_
  rintro e w5 ⟨⟨x1, rfl, k1⟩, hb⟩
  have nHB := Lib.hid (belG HB.out hb HB.out.size)
  have nR0 := Lib.hid ((R0.out.below hb (Nat.le_refl _)).more hb.size)
  have nR1 := Lib.hid ((R1.out.below hb (Nat.le_refl _)).more hb.size)
  have nG0 := Lib.hid (oldG G0.out hb (Nat.le_refl _))
  have nG1 := Lib.hid (oldG G1.out hb (Nat.le_refl _))
  clear hb
  clear HB R0 R1 G0 G1
  have HB := nHB
  have R0 := nR0
  have R1 := nR1
  have G0 := nG0
  have G1 := nG1
  clear nHB nR0 nR1 nG0 nG1
  have R2 := Lib.hid k1
  clear k1
  have LB := Lib.hid HB.out.size
  have LTG0 := Lib.hid (show W.heap.size < w5.heap.size from (Array.getElem?_eq_some_iff.1 G0.out).1)
  have LTG1 := Lib.hid (show (W.heap.size + 1) < w5.heap.size from (Array.getElem?_eq_some_iff.1 G1.out).1)
  obtain ⟨V5, hV5⟩ : ∃ V, V = w5.alloc (.cells (hubC x1 E.1) 29) := ⟨_, rfl⟩
  have ha := (Below.refl w5.heap.size w5).alloc (Nat.le_refl _) (.cells (hubC x1 E.1) 29)
  have hg := heap_alloc_new w5 (.cells (hubC x1 E.1) 29)
  have nHB := Lib.hid (HB.out.alloc HB.out.size (.cells (hubC x1 E.1) 29))
  rw [← hV5] at ha hg nHB
  have nR0 := Lib.hid ((R0.out.below ha (Nat.le_refl _)).more ha.size)
  have nR1 := Lib.hid ((R1.out.below ha (Nat.le_refl _)).more ha.size)
  have nR2 := Lib.hid ((R2.out.below ha (Nat.le_refl _)).more ha.size)
  have nG0 := Lib.hid (oldG G0.out ha (Nat.le_refl _))
  have nG1 := Lib.hid (oldG G1.out ha (Nat.le_refl _))
  obtain ⟨g7, hg7⟩ : ∃ g, g = w5.heap.size := ⟨_, rfl⟩
  rw [← hg7] at hg
  have HXG7 := Lib.hid hg7
  have G7 := Lib.hid hg
  have HV := Lib.hid hV5
  clear ha hg hV5 hg7
  clear HB R0 R1 R2 G0 G1
  have HB := nHB
  have R0 := nR0
  have R1 := nR1
  have R2 := nR2
  have G0 := nG0
  have G1 := nG1
  clear nHB nR0 nR1 nR2 nG0 nG1
  have LEG7 := Lib.hid (show W.heap.size ≤ g7 from by rw [HXG7.out]; exact LB.out)
  have NEG0G7 := Lib.hid (show W.heap.size ≠ g7 from by have h1 := LTG0.out; rw [HXG7.out]; omega)
  have NEG7G0 := Lib.hid (NEG0G7.out.symm)
  have NEG1G7 := Lib.hid (show (W.heap.size + 1) ≠ g7 from by have h1 := LTG1.out; rw [HXG7.out]; omega)
  have NEG7G1 := Lib.hid (NEG1G7.out.symm)
  clear LB LTG0 LTG1
  go_upto_region 10 with (refine storeHb _ (.tmp 7) (.tmp 44) _ x1 E.1 _ (heap_alloc_new _ _) rfl rfl rfl rfl rfl ?_; rw [setRowG_fold])
  rw [← HV.out]
  (try rw [← HXG7.out])
  clear HV HXG7
  go_wp2_with (first | (refine loadHb _ (.tmp 2) W.heap.size x h G0.out rfl rfl rfl ?_) | (refine loadHb _ (.tmp 3) (W.heap.size + 1) y r G1.out rfl rfl rfl ?_) | (refine loadHb _ (.tmp 7) g7 x1 E.1 G7.out rfl rfl rfl ?_))
  refine (CO.out _ HB.out R0.out).mono ?_
  rintro e w6 ⟨⟨x2, rfl, k2⟩, hb⟩
  have nHB := Lib.hid (belG HB.out hb HB.out.size)
  have nR0 := Lib.hid ((R0.out.below hb (Nat.le_refl _)).more hb.size)
  have nR1 := Lib.hid ((R1.out.below hb (Nat.le_refl _)).more hb.size)
  have nR2 := Lib.hid ((R2.out.below hb (Nat.le_refl _)).more hb.size)
  have nG0 := Lib.hid (oldG G0.out hb (Nat.le_refl _))
  have nG1 := Lib.hid (oldG G1.out hb (Nat.le_refl _))
  have nG7 := Lib.hid (oldG G7.out hb (Nat.le_refl _))
  clear hb
  clear HB R0 R1 R2 G0 G1 G7
  have HB := nHB
  have R0 := nR0
  have R1 := nR1
  have R2 := nR2
  have G0 := nG0
  have G1 := nG1
  have G7 := nG7
  clear nHB nR0 nR1 nR2 nG0 nG1 nG7
  have R3 := Lib.hid k2
  clear k2
  have LB := Lib.hid HB.out.size
  have LTG0 := Lib.hid (show W.heap.size < w6.heap.size from (Array.getElem?_eq_some_iff.1 G0.out).1)
  have LTG1 := Lib.hid (show (W.heap.size + 1) < w6.heap.size from (Array.getElem?_eq_some_iff.1 G1.out).1)
  have LTG7 := Lib.hid (show g7 < w6.heap.size from (Array.getElem?_eq_some_iff.1 G7.out).1)
  obtain ⟨V6, hV6⟩ : ∃ V, V = w6.alloc (.cells (hubC x2 E.1) 29) := ⟨_, rfl⟩
  have ha := (Below.refl w6.heap.size w6).alloc (Nat.le_refl _) (.cells (hubC x2 E.1) 29)
  have hg := heap_alloc_new w6 (.cells (hubC x2 E.1) 29)
  have nHB := Lib.hid (HB.out.alloc HB.out.size (.cells (hubC x2 E.1) 29))
  rw [← hV6] at ha hg nHB
  have nR0 := Lib.hid ((R0.out.below ha (Nat.le_refl _)).more ha.size)
  have nR1 := Lib.hid ((R1.out.below ha (Nat.le_refl _)).more ha.size)
  have nR2 := Lib.hid ((R2.out.below ha (Nat.le_refl _)).more ha.size)
  have nR3 := Lib.hid ((R3.out.below ha (Nat.le_refl _)).more ha.size)
  have nG0 := Lib.hid (oldG G0.out ha (Nat.le_refl _))
  have nG1 := Lib.hid (oldG G1.out ha (Nat.le_refl _))
  have nG7 := Lib.hid (oldG G7.out ha (Nat.le_refl _))
  obtain ⟨g8, hg8⟩ : ∃ g, g = w6.heap.size := ⟨_, rfl⟩
  rw [← hg8] at hg
  have HXG8 := Lib.hid hg8
  have G8 := Lib.hid hg
  have HV := Lib.hid hV6
  clear ha hg hV6 hg8
  clear HB R0 R1 R2 R3 G0 G1 G7
  have HB := nHB
  have R0 := nR0
  have R1 := nR1
  have R2 := nR2
  have R3 := nR3
  have G0 := nG0
  have G1 := nG1
  have G7 := nG7
  clear nHB nR0 nR1 nR2 nR3 nG0 nG1 nG7
  have LEG8 := Lib.hid (show W.heap.size ≤ g8 from by rw [HXG8.out]; exact LB.out)
  have NEG0G8 := Lib.hid (show W.heap.size ≠ g8 from by have h1 := LTG0.out; rw [HXG8.out]; omega)
  have NEG8G0 := Lib.hid (NEG0G8.out.symm)
  have NEG1G8 := Lib.hid (show (W.heap.size + 1) ≠ g8 from by have h1 := LTG1.out; rw [HXG8.out]; omega)
  have NEG8G1 := Lib.hid (NEG1G8.out.symm)
  have NEG7G8 := Lib.hid (show g7 ≠ g8 from by have h1 := LTG7.out; rw [HXG8.out]; omega)
  have NEG8G7 := Lib.hid (NEG7G8.out.symm)
  clear LB LTG0 LTG1 LTG7
  go_upto_region 11 with (refine storeHb _ (.tmp 10) (.tmp 50) _ x2 E.1 _ (heap_alloc_new _ _) rfl rfl rfl rfl rfl ?_; rw [setRowG_fold])
  rw [← HV.out]
  (try rw [← HXG8.out])
  clear HV HXG8
  have BB0 := Lib.hid ((Below.refl V6.heap.size V6).drew)
  have F0 := Lib.hid (fun w (h : Below V6.heap.size V6 w) => belG HB.out h HB.out.size)
  have FR0 := Lib.hid (fun w (h : Below V6.heap.size V6 w) => (R0.out.below h (Nat.le_refl _)).more h.size)
  have FR1 := Lib.hid (fun w (h : Below V6.heap.size V6 w) => (R1.out.below h (Nat.le_refl _)).more h.size)
  have FR2 := Lib.hid (fun w (h : Below V6.heap.size V6 w) => (R2.out.below h (Nat.le_refl _)).more h.size)
  have FR3 := Lib.hid (fun w (h : Below V6.heap.size V6 w) => (R3.out.below h (Nat.le_refl _)).more h.size)
  go_wp2_with (first | (refine loadHb _ (.tmp 2) W.heap.size x h G0.out rfl rfl rfl ?_) | (refine loadHb _ (.tmp 3) (W.heap.size + 1) y r G1.out rfl rfl rfl ?_) | (refine loadHb _ (.tmp 7) g7 x1 E.1 G7.out rfl rfl rfl ?_) | (refine loadHb _ (.tmp 10) g8 x2 E.1 G8.out rfl rfl rfl ?_))
  refine wp_region_noPanic ?_
  refine wp_region_held_drew (S := fun w' => Below V6.heap.size V6 w') (by kernel_rfl) BB0.out (fun hHeld => ?_)
  repeat (first
    | (refine wpAnyH_take (i := 0) (oi := ?_) (v := ?_) ?_ (by kernel_rfl) (by decide +kernel) (by decide +kernel) (fun _ _ _ h => h) ?_ (by assumption) ?_; rotate_left 2; (focus (simp only [List.getElem?_toArray, List.getElem?_cons_zero] <;> rfl)); (focus (refine Or.inl ⟨by rfl, ?_⟩; intro w hSw; go_simp <;> with_reducible rfl)); (try simp only [Act.put, List.setIfInBounds_toArray, List.set_cons_zero, List.set_cons_succ]))
    | (refine wpAnyH_take (i := 1) (oi := ?_) (v := ?_) ?_ (by kernel_rfl) (by decide +kernel) (by decide +kernel) (fun _ _ _ h => h) ?_ (by assumption) ?_; rotate_left 2; (focus (simp only [List.getElem?_toArray, List.getElem?_cons_succ, List.getElem?_cons_zero] <;> rfl)); (focus (refine Or.inl ⟨by rfl, ?_⟩; intro w hSw; go_simp <;> with_reducible rfl)); (try simp only [Act.put, List.setIfInBounds_toArray, List.set_cons_zero, List.set_cons_succ]))
    | (refine wpAnyH_take (i := 2) (oi := ?_) (v := .agg (hubC x1 E.1)) ?_ (by kernel_rfl) (by decide +kernel) (by decide +kernel) (fun _ _ _ h => h) ?_ (by assumption) ?_; rotate_left 1; (focus (simp only [List.getElem?_toArray, List.getElem?_cons_succ, List.getElem?_cons_zero] <;> rfl)); (focus (refine yields_hub ?_ (.tmp 7) ?_ (g7) ?_ (hubC x1 E.1) ?_; (focus rfl); (focus exact rfl); (focus exact rfl); exact fun w (hSw : Below V6.heap.size V6 w) => run_loadHb (BoxH.old G7.out hSw (Nat.le_refl _)))); (try simp only [Act.put, List.setIfInBounds_toArray, List.set_cons_zero, List.set_cons_succ]))
    | (refine wpAnyH_take (i := 3) (oi := ?_) (v := .agg (hubC x2 E.1)) ?_ (by kernel_rfl) (by decide +kernel) (by decide +kernel) (fun _ _ _ h => h) ?_ (by assumption) ?_; rotate_left 1; (focus (simp only [List.getElem?_toArray, List.getElem?_cons_succ, List.getElem?_cons_zero] <;> rfl)); (focus (refine yields_hub ?_ (.tmp 10) ?_ (g8) ?_ (hubC x2 E.1) ?_; (focus rfl); (focus exact rfl); (focus exact rfl); exact fun w (hSw : Below V6.heap.size V6 w) => run_loadHb (BoxH.old G8.out hSw (Nat.le_refl _)))); (try simp only [Act.put, List.setIfInBounds_toArray, List.set_cons_zero, List.set_cons_succ]))
    | (refine wpAnyH_take (i := 5) (oi := ?_) (v := ?_) ?_ (by kernel_rfl) (by decide +kernel) (by decide +kernel) (fun _ _ _ h => h) ?_ (by assumption) ?_; rotate_left 2; (focus (simp only [List.getElem?_toArray, List.getElem?_cons_succ, List.getElem?_cons_zero] <;> rfl)); (focus (refine Or.inl ⟨by rfl, ?_⟩; intro w hSw; go_simp <;> with_reducible rfl)); (try simp only [Act.put, List.setIfInBounds_toArray, List.set_cons_zero, List.set_cons_succ]))
    | (refine wpAnyH_take (i := 6) (oi := ?_) (v := ?_) ?_ (by kernel_rfl) (by decide +kernel) (by decide +kernel) (fun _ _ _ h => h) ?_ (by assumption) ?_; rotate_left 2; (focus (simp only [List.getElem?_toArray, List.getElem?_cons_succ, List.getElem?_cons_zero] <;> rfl)); (focus (refine Or.inl ⟨by rfl, ?_⟩; intro w hSw; go_simp <;> with_reducible rfl)); (try simp only [Act.put, List.setIfInBounds_toArray, List.set_cons_zero, List.set_cons_succ]))
    | (refine wpAnyH_take (i := 7) (oi := ?_) (v := ?_) ?_ (by kernel_rfl) (by decide +kernel) (by decide +kernel) (fun _ _ _ h => h) ?_ (by assumption) ?_; rotate_left 2; (focus (simp only [List.getElem?_toArray, List.getElem?_cons_succ, List.getElem?_cons_zero] <;> rfl)); (focus (refine Or.inl ⟨by rfl, ?_⟩; intro w hSw; go_simp <;> with_reducible rfl)); (try simp only [Act.put, List.setIfInBounds_toArray, List.set_cons_zero, List.set_cons_succ]))
    | (refine wpAnyH_take (i := 8) (oi := ?_) (v := ?_) ?_ (by kernel_rfl) (by decide +kernel) (by decide +kernel) (fun _ _ _ h => h) ?_ (by assumption) ?_; rotate_left 2; (focus (simp only [List.getElem?_toArray, List.getElem?_cons_succ, List.getElem?_cons_zero] <;> rfl)); (focus (refine Or.inl ⟨by rfl, ?_⟩; intro w hSw; go_simp <;> with_reducible rfl)); (try simp only [Act.put, List.setIfInBounds_toArray, List.set_cons_zero, List.set_cons_succ]))
    | (refine wpAnyH_take (i := 9) (oi := ?_) (v := ?_) ?_ (by kernel_rfl) (by decide +kernel) (by decide +kernel) (fun _ _ _ h => h) ?_ (by assumption) ?_; rotate_left 2; (focus (simp only [List.getElem?_toArray, List.getElem?_cons_succ, List.getElem?_cons_zero] <;> rfl)); (focus (refine Or.inl ⟨by rfl, ?_⟩; intro w hSw; go_simp <;> with_reducible rfl)); (try simp only [Act.put, List.setIfInBounds_toArray, List.set_cons_zero, List.set_cons_succ]))
    | (refine wpAnyH_take (i := 10) (oi := ?_) (v := ?_) ?_ (by kernel_rfl) (by decide +kernel) (by decide +kernel) (fun _ _ _ h => h) ?_ (by assumption) ?_; rotate_left 2; (focus (simp only [List.getElem?_toArray, List.getElem?_cons_succ, List.getElem?_cons_zero] <;> rfl)); (focus (refine Or.inl ⟨by rfl, ?_⟩; intro w hSw; go_simp <;> with_reducible rfl)); (try simp only [Act.put, List.setIfInBounds_toArray, List.set_cons_zero, List.set_cons_succ]))
    | (refine wpAnyH_take (i := 11) (oi := ?_) (v := ?_) ?_ (by kernel_rfl) (by decide +kernel) (by decide +kernel) (fun _ _ _ h => h) ?_ (by assumption) ?_; rotate_left 2; (focus (simp only [List.getElem?_toArray, List.getElem?_cons_succ, List.getElem?_cons_zero] <;> rfl)); (focus (refine Or.inl ⟨by rfl, ?_⟩; intro w hSw; go_simp <;> with_reducible rfl)); (try simp only [Act.put, List.setIfInBounds_toArray, List.set_cons_zero, List.set_cons_succ]))
    | (refine wpAnyH_take (i := 12) (oi := ?_) (v := ?_) ?_ (by kernel_rfl) (by decide +kernel) (by decide +kernel) (fun _ _ _ h => h) ?_ (by assumption) ?_; rotate_left 2; (focus (simp only [List.getElem?_toArray, List.getElem?_cons_succ, List.getElem?_cons_zero] <;> rfl)); (focus (refine Or.inl ⟨by rfl, ?_⟩; intro w hSw; go_simp <;> with_reducible rfl)); (try simp only [Act.put, List.setIfInBounds_toArray, List.set_cons_zero, List.set_cons_succ]))
    | (refine wpAnyH_take (i := 13) (oi := ?_) (v := ?_) ?_ (by kernel_rfl) (by decide +kernel) (by decide +kernel) (fun _ _ _ h => h) ?_ (by assumption) ?_; rotate_left 2; (focus (simp only [List.getElem?_toArray, List.getElem?_cons_succ, List.getElem?_cons_zero] <;> rfl)); (focus (refine Or.inl ⟨by rfl, ?_⟩; intro w hSw; go_simp <;> with_reducible rfl)); (try simp only [Act.put, List.setIfInBounds_toArray, List.set_cons_zero, List.set_cons_succ]))
    | (refine wpAnyH_take (i := 14) (oi := ?_) (v := ?_) ?_ (by kernel_rfl) (by decide +kernel) (by decide +kernel) (fun _ _ _ h => h) ?_ (by assumption) ?_; rotate_left 2; (focus (simp only [List.getElem?_toArray, List.getElem?_cons_succ, List.getElem?_cons_zero] <;> rfl)); (focus (refine Or.inl ⟨by rfl, ?_⟩; intro w hSw; go_simp <;> with_reducible rfl)); (try simp only [Act.put, List.setIfInBounds_toArray, List.set_cons_zero, List.set_cons_succ]))
    | (refine wpAnyH_take (i := 15) (oi := ?_) (v := ?_) ?_ (by kernel_rfl) (by decide +kernel) (by decide +kernel) (fun _ _ _ h => h) ?_ (by assumption) ?_; rotate_left 2; (focus (simp only [List.getElem?_toArray, List.getElem?_cons_succ, List.getElem?_cons_zero] <;> rfl)); (focus (refine Or.inl ⟨by rfl, ?_⟩; intro w hSw; go_simp <;> with_reducible rfl)); (try simp only [Act.put, List.setIfInBounds_toArray, List.set_cons_zero, List.set_cons_succ]))
    | (refine wpAnyH_take (i := 16) (oi := ?_) (v := ?_) ?_ (by kernel_rfl) (by decide +kernel) (by decide +kernel) (fun _ _ _ h => h) ?_ (by assumption) ?_; rotate_left 2; (focus (simp only [List.getElem?_toArray, List.getElem?_cons_succ, List.getElem?_cons_zero] <;> rfl)); (focus (refine Or.inl ⟨by rfl, ?_⟩; intro w hSw; go_simp <;> with_reducible rfl)); (try simp only [Act.put, List.setIfInBounds_toArray, List.set_cons_zero, List.set_cons_succ]))
    | (refine wpAnyH_take (i := 17) (oi := ?_) (v := .agg (hubC x h)) ?_ (by kernel_rfl) (by decide +kernel) (by decide +kernel) (fun _ _ _ h => h) ?_ (by assumption) ?_; rotate_left 1; (focus (simp only [List.getElem?_toArray, List.getElem?_cons_succ, List.getElem?_cons_zero] <;> rfl)); (focus (refine yields_hub ?_ (.tmp 2) ?_ (W.heap.size) ?_ (hubC x h) ?_; (focus rfl); (focus exact rfl); (focus exact rfl); exact fun w (hSw : Below V6.heap.size V6 w) => run_loadHb (BoxH.old G0.out hSw (Nat.le_refl _)))); (try simp only [Act.put, List.setIfInBounds_toArray, List.set_cons_zero, List.set_cons_succ]))
    | (refine wpAnyH_take (i := 19) (oi := ?_) (v := .agg (hubC x h)) ?_ (by kernel_rfl) (by decide +kernel) (by decide +kernel) (fun _ _ _ h => h) ?_ (by assumption) ?_; rotate_left 1; (focus (simp only [List.getElem?_toArray, List.getElem?_cons_succ, List.getElem?_cons_zero] <;> rfl)); (focus (refine yields_hub ?_ (.tmp 2) ?_ (W.heap.size) ?_ (hubC x h) ?_; (focus rfl); (focus exact rfl); (focus exact rfl); exact fun w (hSw : Below V6.heap.size V6 w) => run_loadHb (BoxH.old G0.out hSw (Nat.le_refl _)))); (try simp only [Act.put, List.setIfInBounds_toArray, List.set_cons_zero, List.set_cons_succ]))
    | (refine wpAnyH_take (i := 21) (oi := ?_) (v := ?_) ?_ (by kernel_rfl) (by decide +kernel) (by decide +kernel) (fun _ _ _ h => h) ?_ (by assumption) ?_; rotate_left 2; (focus (simp only [List.getElem?_toArray, List.getElem?_cons_succ, List.getElem?_cons_zero] <;> rfl)); (focus (refine Or.inl ⟨by rfl, ?_⟩; intro w hSw; go_simp <;> with_reducible rfl)); (try simp only [Act.put, List.setIfInBounds_toArray, List.set_cons_zero, List.set_cons_succ]))
    | (refine wpAnyH_take (i := 22) (oi := ?_) (v := ?_) ?_ (by kernel_rfl) (by decide +kernel) (by decide +kernel) (fun _ _ _ h => h) ?_ (by assumption) ?_; rotate_left 2; (focus (simp only [List.getElem?_toArray, List.getElem?_cons_succ, List.getElem?_cons_zero] <;> rfl)); (focus (refine Or.inl ⟨by rfl, ?_⟩; intro w hSw; go_simp <;> with_reducible rfl)); (try simp only [Act.put, List.setIfInBounds_toArray, List.set_cons_zero, List.set_cons_succ]))
    | (refine wpAnyH_take (i := 23) (oi := ?_) (v := ?_) ?_ (by kernel_rfl) (by decide +kernel) (by decide +kernel) (fun _ _ _ h => h) ?_ (by assumption) ?_; rotate_left 2; (focus (simp only [List.getElem?_toArray, List.getElem?_cons_succ, List.getElem?_cons_zero] <;> rfl)); (focus (refine Or.inl ⟨by rfl, ?_⟩; intro w hSw; go_simp <;> with_reducible rfl)); (try simp only [Act.put, List.setIfInBounds_toArray, List.set_cons_zero, List.set_cons_succ])))
  refine wpAnyH_ready (rs := [4]) (by decide +kernel) (by simp) ?_
  refine AllReadyH.cons rfl (fun K hK => ?_) AllReadyH.nil
  go_simp
  go_at_call 13
  refine (CZ.out x1 x2 _ (FR2.out _ BB0.out) (FR3.out _ BB0.out)).mono ?_
  rintro e wz0 ⟨rfl, hb⟩
  have BB1 := Lib.hid (belG BB0.out hb BB0.out.size)
  clear hb
  refine hK.out _ _ BB1.out (fun hHeld => ?_)
  clear hK K
  (try simp only [Act.put, List.setIfInBounds_toArray, List.set_cons_zero, List.set_cons_succ])
  repeat (first
    | (refine wpAnyH_take (i := 0) (oi := ?_) (v := ?_) ?_ (by kernel_rfl) (by decide +kernel) (by decide +kernel) (fun _ _ _ h => h) ?_ (by assumption) ?_; rotate_left 2; (focus (simp only [List.getElem?_toArray, List.getElem?_cons_succ, List.getElem?_cons_zero] <;> rfl)); (focus (refine Or.inl ⟨by rfl, ?_⟩; intro w hSw; go_simp <;> with_reducible rfl)); (try simp only [Act.put, List.setIfInBounds_toArray, List.set_cons_zero, List.set_cons_succ]))
    | (refine wpAnyH_take (i := 1) (oi := ?_) (v := ?_) ?_ (by kernel_rfl) (by decide +kernel) (by decide +kernel) (fun _ _ _ h => h) ?_ (by assumption) ?_; rotate_left 2; (focus (simp only [List.getElem?_toArray, List.getElem?_cons_succ, List.getElem?_cons_zero] <;> rfl)); (focus (refine Or.inl ⟨by rfl, ?_⟩; intro w hSw; go_simp <;> with_reducible rfl)); (try simp only [Act.put, List.setIfInBounds_toArray, List.set_cons_zero, List.set_cons_succ]))
    | (refine wpAnyH_take (i := 2) (oi := ?_) (v := .agg (hubC x1 E.1)) ?_ (by kernel_rfl) (by decide +kernel) (by decide +kernel) (fun _ _ _ h => h) ?_ (by assumption) ?_; rotate_left 1; (focus (simp only [List.getElem?_toArray, List.getElem?_cons_succ, List.getElem?_cons_zero] <;> rfl)); (focus (refine yields_hub ?_ (.tmp 7) ?_ (g7) ?_ (hubC x1 E.1) ?_; (focus rfl); (focus exact rfl); (focus exact rfl); exact fun w (hSw : Below V6.heap.size V6 w) => run_loadHb (BoxH.old G7.out hSw (Nat.le_refl _)))); (try simp only [Act.put, List.setIfInBounds_toArray, List.set_cons_zero, List.set_cons_succ]))
    | (refine wpAnyH_take (i := 3) (oi := ?_) (v := .agg (hubC x2 E.1)) ?_ (by kernel_rfl) (by decide +kernel) (by decide +kernel) (fun _ _ _ h => h) ?_ (by assumption) ?_; rotate_left 1; (focus (simp only [List.getElem?_toArray, List.getElem?_cons_succ, List.getElem?_cons_zero] <;> rfl)); (focus (refine yields_hub ?_ (.tmp 10) ?_ (g8) ?_ (hubC x2 E.1) ?_; (focus rfl); (focus exact rfl); (focus exact rfl); exact fun w (hSw : Below V6.heap.size V6 w) => run_loadHb (BoxH.old G8.out hSw (Nat.le_refl _)))); (try simp only [Act.put, List.setIfInBounds_toArray, List.set_cons_zero, List.set_cons_succ]))
    | (refine wpAnyH_take (i := 5) (oi := ?_) (v := ?_) ?_ (by kernel_rfl) (by decide +kernel) (by decide +kernel) (fun _ _ _ h => h) ?_ (by assumption) ?_; rotate_left 2; (focus (simp only [List.getElem?_toArray, List.getElem?_cons_succ, List.getElem?_cons_zero] <;> rfl)); (focus (refine Or.inl ⟨by rfl, ?_⟩; intro w hSw; go_simp <;> with_reducible rfl)); (try simp only [Act.put, List.setIfInBounds_toArray, List.set_cons_zero, List.set_cons_succ]))
    | (refine wpAnyH_take (i := 6) (oi := ?_) (v := ?_) ?_ (by kernel_rfl) (by decide +kernel) (by decide +kernel) (fun _ _ _ h => h) ?_ (by assumption) ?_; rotate_left 2; (focus (simp only [List.getElem?_toArray, List.getElem?_cons_succ, List.getElem?_cons_zero] <;> rfl)); (focus (refine Or.inl ⟨by rfl, ?_⟩; intro w hSw; go_simp <;> with_reducible rfl)); (try simp only [Act.put, List.setIfInBounds_toArray, List.set_cons_zero, List.set_cons_succ]))
    | (refine wpAnyH_take (i := 7) (oi := ?_) (v := ?_) ?_ (by kernel_rfl) (by decide +kernel) (by decide +kernel) (fun _ _ _ h => h) ?_ (by assumption) ?_; rotate_left 2; (focus (simp only [List.getElem?_toArray, List.getElem?_cons_succ, List.getElem?_cons_zero] <;> rfl)); (focus (refine Or.inl ⟨by rfl, ?_⟩; intro w hSw; go_simp <;> with_reducible rfl)); (try simp only [Act.put, List.setIfInBounds_toArray, List.set_cons_zero, List.set_cons_succ]))
    | (refine wpAnyH_take (i := 8) (oi := ?_) (v := ?_) ?_ (by kernel_rfl) (by decide +kernel) (by decide +kernel) (fun _ _ _ h => h) ?_ (by assumption) ?_; rotate_left 2; (focus (simp only [List.getElem?_toArray, List.getElem?_cons_succ, List.getElem?_cons_zero] <;> rfl)); (focus (refine Or.inl ⟨by rfl, ?_⟩; intro w hSw; go_simp <;> with_reducible rfl)); (try simp only [Act.put, List.setIfInBounds_toArray, List.set_cons_zero, List.set_cons_succ]))
    | (refine wpAnyH_take (i := 9) (oi := ?_) (v := ?_) ?_ (by kernel_rfl) (by decide +kernel) (by decide +kernel) (fun _ _ _ h => h) ?_ (by assumption) ?_; rotate_left 2; (focus (simp only [List.getElem?_toArray, List.getElem?_cons_succ, List.getElem?_cons_zero] <;> rfl)); (focus (refine Or.inl ⟨by rfl, ?_⟩; intro w hSw; go_simp <;> with_reducible rfl)); (try simp only [Act.put, List.setIfInBounds_toArray, List.set_cons_zero, List.set_cons_succ]))
    | (refine wpAnyH_take (i := 10) (oi := ?_) (v := ?_) ?_ (by kernel_rfl) (by decide +kernel) (by decide +kernel) (fun _ _ _ h => h) ?_ (by assumption) ?_; rotate_left 2; (focus (simp only [List.getElem?_toArray, List.getElem?_cons_succ, List.getElem?_cons_zero] <;> rfl)); (focus (refine Or.inl ⟨by rfl, ?_⟩; intro w hSw; go_simp <;> with_reducible rfl)); (try simp only [Act.put, List.setIfInBounds_toArray, List.set_cons_zero, List.set_cons_succ]))
    | (refine wpAnyH_take (i := 11) (oi := ?_) (v := ?_) ?_ (by kernel_rfl) (by decide +kernel) (by decide +kernel) (fun _ _ _ h => h) ?_ (by assumption) ?_; rotate_left 2; (focus (simp only [List.getElem?_toArray, List.getElem?_cons_succ, List.getElem?_cons_zero] <;> rfl)); (focus (refine Or.inl ⟨by rfl, ?_⟩; intro w hSw; go_simp <;> with_reducible rfl)); (try simp only [Act.put, List.setIfInBounds_toArray, List.set_cons_zero, List.set_cons_succ]))
    | (refine wpAnyH_take (i := 12) (oi := ?_) (v := ?_) ?_ (by kernel_rfl) (by decide +kernel) (by decide +kernel) (fun _ _ _ h => h) ?_ (by assumption) ?_; rotate_left 2; (focus (simp only [List.getElem?_toArray, List.getElem?_cons_succ, List.getElem?_cons_zero] <;> rfl)); (focus (refine Or.inl ⟨by rfl, ?_⟩; intro w hSw; go_simp <;> with_reducible rfl)); (try simp only [Act.put, List.setIfInBounds_toArray, List.set_cons_zero, List.set_cons_succ]))
    | (refine wpAnyH_take (i := 13) (oi := ?_) (v := ?_) ?_ (by kernel_rfl) (by decide +kernel) (by decide +kernel) (fun _ _ _ h => h) ?_ (by assumption) ?_; rotate_left 2; (focus (simp only [List.getElem?_toArray, List.getElem?_cons_succ, List.getElem?_cons_zero] <;> rfl)); (focus (refine Or.inl ⟨by rfl, ?_⟩; intro w hSw; go_simp <;> with_reducible rfl)); (try simp only [Act.put, List.setIfInBounds_toArray, List.set_cons_zero, List.set_cons_succ]))
    | (refine wpAnyH_take (i := 14) (oi := ?_) (v := ?_) ?_ (by kernel_rfl) (by decide +kernel) (by decide +kernel) (fun _ _ _ h => h) ?_ (by assumption) ?_; rotate_left 2; (focus (simp only [List.getElem?_toArray, List.getElem?_cons_succ, List.getElem?_cons_zero] <;> rfl)); (focus (refine Or.inl ⟨by rfl, ?_⟩; intro w hSw; go_simp <;> with_reducible rfl)); (try simp only [Act.put, List.setIfInBounds_toArray, List.set_cons_zero, List.set_cons_succ]))
    | (refine wpAnyH_take (i := 15) (oi := ?_) (v := ?_) ?_ (by kernel_rfl) (by decide +kernel) (by decide +kernel) (fun _ _ _ h => h) ?_ (by assumption) ?_; rotate_left 2; (focus (simp only [List.getElem?_toArray, List.getElem?_cons_succ, List.getElem?_cons_zero] <;> rfl)); (focus (refine Or.inl ⟨by rfl, ?_⟩; intro w hSw; go_simp <;> with_reducible rfl)); (try simp only [Act.put, List.setIfInBounds_toArray, List.set_cons_zero, List.set_cons_succ]))
    | (refine wpAnyH_take (i := 16) (oi := ?_) (v := ?_) ?_ (by kernel_rfl) (by decide +kernel) (by decide +kernel) (fun _ _ _ h => h) ?_ (by assumption) ?_; rotate_left 2; (focus (simp only [List.getElem?_toArray, List.getElem?_cons_succ, List.getElem?_cons_zero] <;> rfl)); (focus (refine Or.inl ⟨by rfl, ?_⟩; intro w hSw; go_simp <;> with_reducible rfl)); (try simp only [Act.put, List.setIfInBounds_toArray, List.set_cons_zero, List.set_cons_succ]))
    | (refine wpAnyH_take (i := 17) (oi := ?_) (v := .agg (hubC x h)) ?_ (by kernel_rfl) (by decide +kernel) (by decide +kernel) (fun _ _ _ h => h) ?_ (by assumption) ?_; rotate_left 1; (focus (simp only [List.getElem?_toArray, List.getElem?_cons_succ, List.getElem?_cons_zero] <;> rfl)); (focus (refine yields_hub ?_ (.tmp 2) ?_ (W.heap.size) ?_ (hubC x h) ?_; (focus rfl); (focus exact rfl); (focus exact rfl); exact fun w (hSw : Below V6.heap.size V6 w) => run_loadHb (BoxH.old G0.out hSw (Nat.le_refl _)))); (try simp only [Act.put, List.setIfInBounds_toArray, List.set_cons_zero, List.set_cons_succ]))
    | (refine wpAnyH_take (i := 19) (oi := ?_) (v := .agg (hubC x h)) ?_ (by kernel_rfl) (by decide +kernel) (by decide +kernel) (fun _ _ _ h => h) ?_ (by assumption) ?_; rotate_left 1; (focus (simp only [List.getElem?_toArray, List.getElem?_cons_succ, List.getElem?_cons_zero] <;> rfl)); (focus (refine yields_hub ?_ (.tmp 2) ?_ (W.heap.size) ?_ (hubC x h) ?_; (focus rfl); (focus exact rfl); (focus exact rfl); exact fun w (hSw : Below V6.heap.size V6 w) => run_loadHb (BoxH.old G0.out hSw (Nat.le_refl _)))); (try simp only [Act.put, List.setIfInBounds_toArray, List.set_cons_zero, List.set_cons_succ]))
    | (refine wpAnyH_take (i := 21) (oi := ?_) (v := ?_) ?_ (by kernel_rfl) (by decide +kernel) (by decide +kernel) (fun _ _ _ h => h) ?_ (by assumption) ?_; rotate_left 2; (focus (simp only [List.getElem?_toArray, List.getElem?_cons_succ, List.getElem?_cons_zero] <;> rfl)); (focus (refine Or.inl ⟨by rfl, ?_⟩; intro w hSw; go_simp <;> with_reducible rfl)); (try simp only [Act.put, List.setIfInBounds_toArray, List.set_cons_zero, List.set_cons_succ]))
    | (refine wpAnyH_take (i := 22) (oi := ?_) (v := ?_) ?_ (by kernel_rfl) (by decide +kernel) (by decide +kernel) (fun _ _ _ h => h) ?_ (by assumption) ?_; rotate_left 2; (focus (simp only [List.getElem?_toArray, List.getElem?_cons_succ, List.getElem?_cons_zero] <;> rfl)); (focus (refine Or.inl ⟨by rfl, ?_⟩; intro w hSw; go_simp <;> with_reducible rfl)); (try simp only [Act.put, List.setIfInBounds_toArray, List.set_cons_zero, List.set_cons_succ]))
    | (refine wpAnyH_take (i := 23) (oi := ?_) (v := ?_) ?_ (by kernel_rfl) (by decide +kernel) (by decide +kernel) (fun _ _ _ h => h) ?_ (by assumption) ?_; rotate_left 2; (focus (simp only [List.getElem?_toArray, List.getElem?_cons_succ, List.getElem?_cons_zero] <;> rfl)); (focus (refine Or.inl ⟨by rfl, ?_⟩; intro w hSw; go_simp <;> with_reducible rfl)); (try simp only [Act.put, List.setIfInBounds_toArray, List.set_cons_zero, List.set_cons_succ])))
  refine wpAnyH_ready (rs := [18]) (by decide +kernel) (by simp) ?_
  refine AllReadyH.cons rfl (fun K hK => ?_) AllReadyH.nil
  go_simp
  go_at_call 16
  refine (CA.out _ (F0.out _ BB1.out) (FR0.out _ BB1.out)).mono ?_
  rintro e wz1 ⟨rfl, hb⟩
  have BB2 := Lib.hid (belG BB1.out hb BB1.out.size)
  clear hb
  refine hK.out _ _ BB2.out (fun hHeld => ?_)
  clear hK K
  (try simp only [Act.put, List.setIfInBounds_toArray, List.set_cons_zero, List.set_cons_succ])
  repeat (first
    | (refine wpAnyH_take (i := 0) (oi := ?_) (v := ?_) ?_ (by kernel_rfl) (by decide +kernel) (by decide +kernel) (fun _ _ _ h => h) ?_ (by assumption) ?_; rotate_left 2; (focus (simp only [List.getElem?_toArray, List.getElem?_cons_succ, List.getElem?_cons_zero] <;> rfl)); (focus (refine Or.inl ⟨by rfl, ?_⟩; intro w hSw; go_simp <;> with_reducible rfl)); (try simp only [Act.put, List.setIfInBounds_toArray, List.set_cons_zero, List.set_cons_succ]))
    | (refine wpAnyH_take (i := 1) (oi := ?_) (v := ?_) ?_ (by kernel_rfl) (by decide +kernel) (by decide +kernel) (fun _ _ _ h => h) ?_ (by assumption) ?_; rotate_left 2; (focus (simp only [List.getElem?_toArray, List.getElem?_cons_succ, List.getElem?_cons_zero] <;> rfl)); (focus (refine Or.inl ⟨by rfl, ?_⟩; intro w hSw; go_simp <;> with_reducible rfl)); (try simp only [Act.put, List.setIfInBounds_toArray, List.set_cons_zero, List.set_cons_succ]))
    | (refine wpAnyH_take (i := 2) (oi := ?_) (v := .agg (hubC x1 E.1)) ?_ (by kernel_rfl) (by decide +kernel) (by decide +kernel) (fun _ _ _ h => h) ?_ (by assumption) ?_; rotate_left 1; (focus (simp only [List.getElem?_toArray, List.getElem?_cons_succ, List.getElem?_cons_zero] <;> rfl)); (focus (refine yields_hub ?_ (.tmp 7) ?_ (g7) ?_ (hubC x1 E.1) ?_; (focus rfl); (focus exact rfl); (focus exact rfl); exact fun w (hSw : Below V6.heap.size V6 w) => run_loadHb (BoxH.old G7.out hSw (Nat.le_refl _)))); (try simp only [Act.put, List.setIfInBounds_toArray, List.set_cons_zero, List.set_cons_succ]))
    | (refine wpAnyH_take (i := 3) (oi := ?_) (v := .agg (hubC x2 E.1)) ?_ (by kernel_rfl) (by decide +kernel) (by decide +kernel) (fun _ _ _ h => h) ?_ (by assumption) ?_; rotate_left 1; (focus (simp only [List.getElem?_toArray, List.getElem?_cons_succ, List.getElem?_cons_zero] <;> rfl)); (focus (refine yields_hub ?_ (.tmp 10) ?_ (g8) ?_ (hubC x2 E.1) ?_; (focus rfl); (focus exact rfl); (focus exact rfl); exact fun w (hSw : Below V6.heap.size V6 w) => run_loadHb (BoxH.old G8.out hSw (Nat.le_refl _)))); (try simp only [Act.put, List.setIfInBounds_toArray, List.set_cons_zero, List.set_cons_succ]))
    | (refine wpAnyH_take (i := 5) (oi := ?_) (v := ?_) ?_ (by kernel_rfl) (by decide +kernel) (by decide +kernel) (fun _ _ _ h => h) ?_ (by assumption) ?_; rotate_left 2; (focus (simp only [List.getElem?_toArray, List.getElem?_cons_succ, List.getElem?_cons_zero] <;> rfl)); (focus (refine Or.inl ⟨by rfl, ?_⟩; intro w hSw; go_simp <;> with_reducible rfl)); (try simp only [Act.put, List.setIfInBounds_toArray, List.set_cons_zero, List.set_cons_succ]))
    | (refine wpAnyH_take (i := 6) (oi := ?_) (v := ?_) ?_ (by kernel_rfl) (by decide +kernel) (by decide +kernel) (fun _ _ _ h => h) ?_ (by assumption) ?_; rotate_left 2; (focus (simp only [List.getElem?_toArray, List.getElem?_cons_succ, List.getElem?_cons_zero] <;> rfl)); (focus (refine Or.inl ⟨by rfl, ?_⟩; intro w hSw; go_simp <;> with_reducible rfl)); (try simp only [Act.put, List.setIfInBounds_toArray, List.set_cons_zero, List.set_cons_succ]))
    | (refine wpAnyH_take (i := 7) (oi := ?_) (v := ?_) ?_ (by kernel_rfl) (by decide +kernel) (by decide +kernel) (fun _ _ _ h => h) ?_ (by assumption) ?_; rotate_left 2; (focus (simp only [List.getElem?_toArray, List.getElem?_cons_succ, List.getElem?_cons_zero] <;> rfl)); (focus (refine Or.inl ⟨by rfl, ?_⟩; intro w hSw; go_simp <;> with_reducible rfl)); (try simp only [Act.put, List.setIfInBounds_toArray, List.set_cons_zero, List.set_cons_succ]))
    | (refine wpAnyH_take (i := 8) (oi := ?_) (v := ?_) ?_ (by kernel_rfl) (by decide +kernel) (by decide +kernel) (fun _ _ _ h => h) ?_ (by assumption) ?_; rotate_left 2; (focus (simp only [List.getElem?_toArray, List.getElem?_cons_succ, List.getElem?_cons_zero] <;> rfl)); (focus (refine Or.inl ⟨by rfl, ?_⟩; intro w hSw; go_simp <;> with_reducible rfl)); (try simp only [Act.put, List.setIfInBounds_toArray, List.set_cons_zero, List.set_cons_succ]))
    | (refine wpAnyH_take (i := 9) (oi := ?_) (v := ?_) ?_ (by kernel_rfl) (by decide +kernel) (by decide +kernel) (fun _ _ _ h => h) ?_ (by assumption) ?_; rotate_left 2; (focus (simp only [List.getElem?_toArray, List.getElem?_cons_succ, List.getElem?_cons_zero] <;> rfl)); (focus (refine Or.inl ⟨by rfl, ?_⟩; intro w hSw; go_simp <;> with_reducible rfl)); (try simp only [Act.put, List.setIfInBounds_toArray, List.set_cons_zero, List.set_cons_succ]))
    | (refine wpAnyH_take (i := 10) (oi := ?_) (v := ?_) ?_ (by kernel_rfl) (by decide +kernel) (by decide +kernel) (fun _ _ _ h => h) ?_ (by assumption) ?_; rotate_left 2; (focus (simp only [List.getElem?_toArray, List.getElem?_cons_succ, List.getElem?_cons_zero] <;> rfl)); (focus (refine Or.inl ⟨by rfl, ?_⟩; intro w hSw; go_simp <;> with_reducible rfl)); (try simp only [Act.put, List.setIfInBounds_toArray, List.set_cons_zero, List.set_cons_succ]))
    | (refine wpAnyH_take (i := 11) (oi := ?_) (v := ?_) ?_ (by kernel_rfl) (by decide +kernel) (by decide +kernel) (fun _ _ _ h => h) ?_ (by assumption) ?_; rotate_left 2; (focus (simp only [List.getElem?_toArray, List.getElem?_cons_succ, List.getElem?_cons_zero] <;> rfl)); (focus (refine Or.inl ⟨by rfl, ?_⟩; intro w hSw; go_simp <;> with_reducible rfl)); (try simp only [Act.put, List.setIfInBounds_toArray, List.set_cons_zero, List.set_cons_succ]))
    | (refine wpAnyH_take (i := 12) (oi := ?_) (v := ?_) ?_ (by kernel_rfl) (by decide +kernel) (by decide +kernel) (fun _ _ _ h => h) ?_ (by assumption) ?_; rotate_left 2; (focus (simp only [List.getElem?_toArray, List.getElem?_cons_succ, List.getElem?_cons_zero] <;> rfl)); (focus (refine Or.inl ⟨by rfl, ?_⟩; intro w hSw; go_simp <;> with_reducible rfl)); (try simp only [Act.put, List.setIfInBounds_toArray, List.set_cons_zero, List.set_cons_succ]))
    | (refine wpAnyH_take (i := 13) (oi := ?_) (v := ?_) ?_ (by kernel_rfl) (by decide +kernel) (by decide +kernel) (fun _ _ _ h => h) ?_ (by assumption) ?_; rotate_left 2; (focus (simp only [List.getElem?_toArray, List.getElem?_cons_succ, List.getElem?_cons_zero] <;> rfl)); (focus (refine Or.inl ⟨by rfl, ?_⟩; intro w hSw; go_simp <;> with_reducible rfl)); (try simp only [Act.put, List.setIfInBounds_toArray, List.set_cons_zero, List.set_cons_succ]))
    | (refine wpAnyH_take (i := 14) (oi := ?_) (v := ?_) ?_ (by kernel_rfl) (by decide +kernel) (by decide +kernel) (fun _ _ _ h => h) ?_ (by assumption) ?_; rotate_left 2; (focus (simp only [List.getElem?_toArray, List.getElem?_cons_succ, List.getElem?_cons_zero] <;> rfl)); (focus (refine Or.inl ⟨by rfl, ?_⟩; intro w hSw; go_simp <;> with_reducible rfl)); (try simp only [Act.put, List.setIfInBounds_toArray, List.set_cons_zero, List.set_cons_succ]))
    | (refine wpAnyH_take (i := 15) (oi := ?_) (v := ?_) ?_ (by kernel_rfl) (by decide +kernel) (by decide +kernel) (fun _ _ _ h => h) ?_ (by assumption) ?_; rotate_left 2; (focus (simp only [List.getElem?_toArray, List.getElem?_cons_succ, List.getElem?_cons_zero] <;> rfl)); (focus (refine Or.inl ⟨by rfl, ?_⟩; intro w hSw; go_simp <;> with_reducible rfl)); (try simp only [Act.put, List.setIfInBounds_toArray, List.set_cons_zero, List.set_cons_succ]))
    | (refine wpAnyH_take (i := 16) (oi := ?_) (v := ?_) ?_ (by kernel_rfl) (by decide +kernel) (by decide +kernel) (fun _ _ _ h => h) ?_ (by assumption) ?_; rotate_left 2; (focus (simp only [List.getElem?_toArray, List.getElem?_cons_succ, List.getElem?_cons_zero] <;> rfl)); (focus (refine Or.inl ⟨by rfl, ?_⟩; intro w hSw; go_simp <;> with_reducible rfl)); (try simp only [Act.put, List.setIfInBounds_toArray, List.set_cons_zero, List.set_cons_succ]))
    | (refine wpAnyH_take (i := 17) (oi := ?_) (v := .agg (hubC x h)) ?_ (by kernel_rfl) (by decide +kernel) (by decide +kernel) (fun _ _ _ h => h) ?_ (by assumption) ?_; rotate_left 1; (focus (simp only [List.getElem?_toArray, List.getElem?_cons_succ, List.getElem?_cons_zero] <;> rfl)); (focus (refine yields_hub ?_ (.tmp 2) ?_ (W.heap.size) ?_ (hubC x h) ?_; (focus rfl); (focus exact rfl); (focus exact rfl); exact fun w (hSw : Below V6.heap.size V6 w) => run_loadHb (BoxH.old G0.out hSw (Nat.le_refl _)))); (try simp only [Act.put, List.setIfInBounds_toArray, List.set_cons_zero, List.set_cons_succ]))
    | (refine wpAnyH_take (i := 19) (oi := ?_) (v := .agg (hubC x h)) ?_ (by kernel_rfl) (by decide +kernel) (by decide +kernel) (fun _ _ _ h => h) ?_ (by assumption) ?_; rotate_left 1; (focus (simp only [List.getElem?_toArray, List.getElem?_cons_succ, List.getElem?_cons_zero] <;> rfl)); (focus (refine yields_hub ?_ (.tmp 2) ?_ (W.heap.size) ?_ (hubC x h) ?_; (focus rfl); (focus exact rfl); (focus exact rfl); exact fun w (hSw : Below V6.heap.size V6 w) => run_loadHb (BoxH.old G0.out hSw (Nat.le_refl _)))); (try simp only [Act.put, List.setIfInBounds_toArray, List.set_cons_zero, List.set_cons_succ]))
    | (refine wpAnyH_take (i := 21) (oi := ?_) (v := ?_) ?_ (by kernel_rfl) (by decide +kernel) (by decide +kernel) (fun _ _ _ h => h) ?_ (by assumption) ?_; rotate_left 2; (focus (simp only [List.getElem?_toArray, List.getElem?_cons_succ, List.getElem?_cons_zero] <;> rfl)); (focus (refine Or.inl ⟨by rfl, ?_⟩; intro w hSw; go_simp <;> with_reducible rfl)); (try simp only [Act.put, List.setIfInBounds_toArray, List.set_cons_zero, List.set_cons_succ]))
    | (refine wpAnyH_take (i := 22) (oi := ?_) (v := ?_) ?_ (by kernel_rfl) (by decide +kernel) (by decide +kernel) (fun _ _ _ h => h) ?_ (by assumption) ?_; rotate_left 2; (focus (simp only [List.getElem?_toArray, List.getElem?_cons_succ, List.getElem?_cons_zero] <;> rfl)); (focus (refine Or.inl ⟨by rfl, ?_⟩; intro w hSw; go_simp <;> with_reducible rfl)); (try simp only [Act.put, List.setIfInBounds_toArray, List.set_cons_zero, List.set_cons_succ]))
    | (refine wpAnyH_take (i := 23) (oi := ?_) (v := ?_) ?_ (by kernel_rfl) (by decide +kernel) (by decide +kernel) (fun _ _ _ h => h) ?_ (by assumption) ?_; rotate_left 2; (focus (simp only [List.getElem?_toArray, List.getElem?_cons_succ, List.getElem?_cons_zero] <;> rfl)); (focus (refine Or.inl ⟨by rfl, ?_⟩; intro w hSw; go_simp <;> with_reducible rfl)); (try simp only [Act.put, List.setIfInBounds_toArray, List.set_cons_zero, List.set_cons_succ])))
  refine wpAnyH_ready (rs := [20]) (by decide +kernel) (by simp) ?_
  refine AllReadyH.cons rfl (fun K hK => ?_) AllReadyH.nil
  go_simp
  go_at_call 17
  refine (CB.out _ (F0.out _ BB2.out)).mono ?_
  rintro e wz2 ⟨rfl, hb⟩
  have BB3 := Lib.hid (belG BB2.out hb BB2.out.size)
  clear hb
  refine hK.out _ _ BB3.out (fun hHeld => ?_)
  clear hK K
  (try simp only [Act.put, List.setIfInBounds_toArray, List.set_cons_zero, List.set_cons_succ])
  repeat (first
    | (refine wpAnyH_take (i := 0) (oi := ?_) (v := ?_) ?_ (by kernel_rfl) (by decide +kernel) (by decide +kernel) (fun _ _ _ h => h) ?_ (by assumption) ?_; rotate_left 2; (focus (simp only [List.getElem?_toArray, List.getElem?_cons_succ, List.getElem?_cons_zero] <;> rfl)); (focus (refine Or.inl ⟨by rfl, ?_⟩; intro w hSw; go_simp <;> with_reducible rfl)); (try simp only [Act.put, List.setIfInBounds_toArray, List.set_cons_zero, List.set_cons_succ]))
    | (refine wpAnyH_take (i := 1) (oi := ?_) (v := ?_) ?_ (by kernel_rfl) (by decide +kernel) (by decide +kernel) (fun _ _ _ h => h) ?_ (by assumption) ?_; rotate_left 2; (focus (simp only [List.getElem?_toArray, List.getElem?_cons_succ, List.getElem?_cons_zero] <;> rfl)); (focus (refine Or.inl ⟨by rfl, ?_⟩; intro w hSw; go_simp <;> with_reducible rfl)); (try simp only [Act.put, List.setIfInBounds_toArray, List.set_cons_zero, List.set_cons_succ]))
    | (refine wpAnyH_take (i := 2) (oi := ?_) (v := .agg (hubC x1 E.1)) ?_ (by kernel_rfl) (by decide +kernel) (by decide +kernel) (fun _ _ _ h => h) ?_ (by assumption) ?_; rotate_left 1; (focus (simp only [List.getElem?_toArray, List.getElem?_cons_succ, List.getElem?_cons_zero] <;> rfl)); (focus (refine yields_hub ?_ (.tmp 7) ?_ (g7) ?_ (hubC x1 E.1) ?_; (focus rfl); (focus exact rfl); (focus exact rfl); exact fun w (hSw : Below V6.heap.size V6 w) => run_loadHb (BoxH.old G7.out hSw (Nat.le_refl _)))); (try simp only [Act.put, List.setIfInBounds_toArray, List.set_cons_zero, List.set_cons_succ]))
    | (refine wpAnyH_take (i := 3) (oi := ?_) (v := .agg (hubC x2 E.1)) ?_ (by kernel_rfl) (by decide +kernel) (by decide +kernel) (fun _ _ _ h => h) ?_ (by assumption) ?_; rotate_left 1; (focus (simp only [List.getElem?_toArray, List.getElem?_cons_succ, List.getElem?_cons_zero] <;> rfl)); (focus (refine yields_hub ?_ (.tmp 10) ?_ (g8) ?_ (hubC x2 E.1) ?_; (focus rfl); (focus exact rfl); (focus exact rfl); exact fun w (hSw : Below V6.heap.size V6 w) => run_loadHb (BoxH.old G8.out hSw (Nat.le_refl _)))); (try simp only [Act.put, List.setIfInBounds_toArray, List.set_cons_zero, List.set_cons_succ]))
    | (refine wpAnyH_take (i := 5) (oi := ?_) (v := ?_) ?_ (by kernel_rfl) (by decide +kernel) (by decide +kernel) (fun _ _ _ h => h) ?_ (by assumption) ?_; rotate_left 2; (focus (simp only [List.getElem?_toArray, List.getElem?_cons_succ, List.getElem?_cons_zero] <;> rfl)); (focus (refine Or.inl ⟨by rfl, ?_⟩; intro w hSw; go_simp <;> with_reducible rfl)); (try simp only [Act.put, List.setIfInBounds_toArray, List.set_cons_zero, List.set_cons_succ]))
    | (refine wpAnyH_take (i := 6) (oi := ?_) (v := ?_) ?_ (by kernel_rfl) (by decide +kernel) (by decide +kernel) (fun _ _ _ h => h) ?_ (by assumption) ?_; rotate_left 2; (focus (simp only [List.getElem?_toArray, List.getElem?_cons_succ, List.getElem?_cons_zero] <;> rfl)); (focus (refine Or.inl ⟨by rfl, ?_⟩; intro w hSw; go_simp <;> with_reducible rfl)); (try simp only [Act.put, List.setIfInBounds_toArray, List.set_cons_zero, List.set_cons_succ]))
    | (refine wpAnyH_take (i := 7) (oi := ?_) (v := ?_) ?_ (by kernel_rfl) (by decide +kernel) (by decide +kernel) (fun _ _ _ h => h) ?_ (by assumption) ?_; rotate_left 2; (focus (simp only [List.getElem?_toArray, List.getElem?_cons_succ, List.getElem?_cons_zero] <;> rfl)); (focus (refine Or.inl ⟨by rfl, ?_⟩; intro w hSw; go_simp <;> with_reducible rfl)); (try simp only [Act.put, List.setIfInBounds_toArray, List.set_cons_zero, List.set_cons_succ]))
    | (refine wpAnyH_take (i := 8) (oi := ?_) (v := ?_) ?_ (by kernel_rfl) (by decide +kernel) (by decide +kernel) (fun _ _ _ h => h) ?_ (by assumption) ?_; rotate_left 2; (focus (simp only [List.getElem?_toArray, List.getElem?_cons_succ, List.getElem?_cons_zero] <;> rfl)); (focus (refine Or.inl ⟨by rfl, ?_⟩; intro w hSw; go_simp <;> with_reducible rfl)); (try simp only [Act.put, List.setIfInBounds_toArray, List.set_cons_zero, List.set_cons_succ]))
    | (refine wpAnyH_take (i := 9) (oi := ?_) (v := ?_) ?_ (by kernel_rfl) (by decide +kernel) (by decide +kernel) (fun _ _ _ h => h) ?_ (by assumption) ?_; rotate_left 2; (focus (simp only [List.getElem?_toArray, List.getElem?_cons_succ, List.getElem?_cons_zero] <;> rfl)); (focus (refine Or.inl ⟨by rfl, ?_⟩; intro w hSw; go_simp <;> with_reducible rfl)); (try simp only [Act.put, List.setIfInBounds_toArray, List.set_cons_zero, List.set_cons_succ]))
    | (refine wpAnyH_take (i := 10) (oi := ?_) (v := ?_) ?_ (by kernel_rfl) (by decide +kernel) (by decide +kernel) (fun _ _ _ h => h) ?_ (by assumption) ?_; rotate_left 2; (focus (simp only [List.getElem?_toArray, List.getElem?_cons_succ, List.getElem?_cons_zero] <;> rfl)); (focus (refine Or.inl ⟨by rfl, ?_⟩; intro w hSw; go_simp <;> with_reducible rfl)); (try simp only [Act.put, List.setIfInBounds_toArray, List.set_cons_zero, List.set_cons_succ]))
    | (refine wpAnyH_take (i := 11) (oi := ?_) (v := ?_) ?_ (by kernel_rfl) (by decide +kernel) (by decide +kernel) (fun _ _ _ h => h) ?_ (by assumption) ?_; rotate_left 2; (focus (simp only [List.getElem?_toArray, List.getElem?_cons_succ, List.getElem?_cons_zero] <;> rfl)); (focus (refine Or.inl ⟨by rfl, ?_⟩; intro w hSw; go_simp <;> with_reducible rfl)); (try simp only [Act.put, List.setIfInBounds_toArray, List.set_cons_zero, List.set_cons_succ]))
    | (refine wpAnyH_take (i := 12) (oi := ?_) (v := ?_) ?_ (by kernel_rfl) (by decide +kernel) (by decide +kernel) (fun _ _ _ h => h) ?_ (by assumption) ?_; rotate_left 2; (focus (simp only [List.getElem?_toArray, List.getElem?_cons_succ, List.getElem?_cons_zero] <;> rfl)); (focus (refine Or.inl ⟨by rfl, ?_⟩; intro w hSw; go_simp <;> with_reducible rfl)); (try simp only [Act.put, List.setIfInBounds_toArray, List.set_cons_zero, List.set_cons_succ]))
    | (refine wpAnyH_take (i := 13) (oi := ?_) (v := ?_) ?_ (by kernel_rfl) (by decide +kernel) (by decide +kernel) (fun _ _ _ h => h) ?_ (by assumption) ?_; rotate_left 2; (focus (simp only [List.getElem?_toArray, List.getElem?_cons_succ, List.getElem?_cons_zero] <;> rfl)); (focus (refine Or.inl ⟨by rfl, ?_⟩; intro w hSw; go_simp <;> with_reducible rfl)); (try simp only [Act.put, List.setIfInBounds_toArray, List.set_cons_zero, List.set_cons_succ]))
    | (refine wpAnyH_take (i := 14) (oi := ?_) (v := ?_) ?_ (by kernel_rfl) (by decide +kernel) (by decide +kernel) (fun _ _ _ h => h) ?_ (by assumption) ?_; rotate_left 2; (focus (simp only [List.getElem?_toArray, List.getElem?_cons_succ, List.getElem?_cons_zero] <;> rfl)); (focus (refine Or.inl ⟨by rfl, ?_⟩; intro w hSw; go_simp <;> with_reducible rfl)); (try simp only [Act.put, List.setIfInBounds_toArray, List.set_cons_zero, List.set_cons_succ]))
    | (refine wpAnyH_take (i := 15) (oi := ?_) (v := ?_) ?_ (by kernel_rfl) (by decide +kernel) (by decide +kernel) (fun _ _ _ h => h) ?_ (by assumption) ?_; rotate_left 2; (focus (simp only [List.getElem?_toArray, List.getElem?_cons_succ, List.getElem?_cons_zero] <;> rfl)); (focus (refine Or.inl ⟨by rfl, ?_⟩; intro w hSw; go_simp <;> with_reducible rfl)); (try simp only [Act.put, List.setIfInBounds_toArray, List.set_cons_zero, List.set_cons_succ]))
    | (refine wpAnyH_take (i := 16) (oi := ?_) (v := ?_) ?_ (by kernel_rfl) (by decide +kernel) (by decide +kernel) (fun _ _ _ h => h) ?_ (by assumption) ?_; rotate_left 2; (focus (simp only [List.getElem?_toArray, List.getElem?_cons_succ, List.getElem?_cons_zero] <;> rfl)); (focus (refine Or.inl ⟨by rfl, ?_⟩; intro w hSw; go_simp <;> with_reducible rfl)); (try simp only [Act.put, List.setIfInBounds_toArray, List.set_cons_zero, List.set_cons_succ]))
    | (refine wpAnyH_take (i := 17) (oi := ?_) (v := .agg (hubC x h)) ?_ (by kernel_rfl) (by decide +kernel) (by decide +kernel) (fun _ _ _ h => h) ?_ (by assumption) ?_; rotate_left 1; (focus (simp only [List.getElem?_toArray, List.getElem?_cons_succ, List.getElem?_cons_zero] <;> rfl)); (focus (refine yields_hub ?_ (.tmp 2) ?_ (W.heap.size) ?_ (hubC x h) ?_; (focus rfl); (focus exact rfl); (focus exact rfl); exact fun w (hSw : Below V6.heap.size V6 w) => run_loadHb (BoxH.old G0.out hSw (Nat.le_refl _)))); (try simp only [Act.put, List.setIfInBounds_toArray, List.set_cons_zero, List.set_cons_succ]))
    | (refine wpAnyH_take (i := 19) (oi := ?_) (v := .agg (hubC x h)) ?_ (by kernel_rfl) (by decide +kernel) (by decide +kernel) (fun _ _ _ h => h) ?_ (by assumption) ?_; rotate_left 1; (focus (simp only [List.getElem?_toArray, List.getElem?_cons_succ, List.getElem?_cons_zero] <;> rfl)); (focus (refine yields_hub ?_ (.tmp 2) ?_ (W.heap.size) ?_ (hubC x h) ?_; (focus rfl); (focus exact rfl); (focus exact rfl); exact fun w (hSw : Below V6.heap.size V6 w) => run_loadHb (BoxH.old G0.out hSw (Nat.le_refl _)))); (try simp only [Act.put, List.setIfInBounds_toArray, List.set_cons_zero, List.set_cons_succ]))
    | (refine wpAnyH_take (i := 21) (oi := ?_) (v := ?_) ?_ (by kernel_rfl) (by decide +kernel) (by decide +kernel) (fun _ _ _ h => h) ?_ (by assumption) ?_; rotate_left 2; (focus (simp only [List.getElem?_toArray, List.getElem?_cons_succ, List.getElem?_cons_zero] <;> rfl)); (focus (refine Or.inl ⟨by rfl, ?_⟩; intro w hSw; go_simp <;> with_reducible rfl)); (try simp only [Act.put, List.setIfInBounds_toArray, List.set_cons_zero, List.set_cons_succ]))
    | (refine wpAnyH_take (i := 22) (oi := ?_) (v := ?_) ?_ (by kernel_rfl) (by decide +kernel) (by decide +kernel) (fun _ _ _ h => h) ?_ (by assumption) ?_; rotate_left 2; (focus (simp only [List.getElem?_toArray, List.getElem?_cons_succ, List.getElem?_cons_zero] <;> rfl)); (focus (refine Or.inl ⟨by rfl, ?_⟩; intro w hSw; go_simp <;> with_reducible rfl)); (try simp only [Act.put, List.setIfInBounds_toArray, List.set_cons_zero, List.set_cons_succ]))
    | (refine wpAnyH_take (i := 23) (oi := ?_) (v := ?_) ?_ (by kernel_rfl) (by decide +kernel) (by decide +kernel) (fun _ _ _ h => h) ?_ (by assumption) ?_; rotate_left 2; (focus (simp only [List.getElem?_toArray, List.getElem?_cons_succ, List.getElem?_cons_zero] <;> rfl)); (focus (refine Or.inl ⟨by rfl, ?_⟩; intro w hSw; go_simp <;> with_reducible rfl)); (try simp only [Act.put, List.setIfInBounds_toArray, List.set_cons_zero, List.set_cons_succ])))
  refine wpAnyH_done (by decide +kernel) ?_ _
  refine NoPanic.normal ?_
  have nHB := Lib.hid (F0.out _ BB3.out)
  have nR0 := Lib.hid (FR0.out _ BB3.out)
  have nR1 := Lib.hid (FR1.out _ BB3.out)
  have nR2 := Lib.hid (FR2.out _ BB3.out)
  have nR3 := Lib.hid (FR3.out _ BB3.out)
  have nG0 := Lib.hid (BoxH.old G0.out BB3.out (Nat.le_refl _))
  have nG1 := Lib.hid (BoxH.old G1.out BB3.out (Nat.le_refl _))
  have nG7 := Lib.hid (BoxH.old G7.out BB3.out (Nat.le_refl _))
  have nG8 := Lib.hid (BoxH.old G8.out BB3.out (Nat.le_refl _))
  clear F0 FR0 FR1 FR2 FR3
  clear HB R0 R1 R2 R3 G0 G1 G7 G8
  have HB := nHB
  have R0 := nR0
  have R1 := nR1
  have R2 := nR2
  have R3 := nR3
  have G0 := nG0
  have G1 := nG1
  have G7 := nG7
  have G8 := nG8
  clear nHB nR0 nR1 nR2 nR3 nG0 nG1 nG7 nG8
  go_wp2_with (first | (refine loadHb _ (.tmp 2) W.heap.size x h G0.out rfl rfl rfl ?_) | (refine loadHb _ (.tmp 3) (W.heap.size + 1) y r G1.out rfl rfl rfl ?_) | (refine loadHb _ (.tmp 7) g7 x1 E.1 G7.out rfl rfl rfl ?_) | (refine loadHb _ (.tmp 10) g8 x2 E.1 G8.out rfl rfl rfl ?_))
  go_ret
  exact ⟨by first | rfl | simp, HB.out⟩
end Go.Proofs.Ytplekllhnpljiaa
