
/- Package win: Right, Fresh, Mark: what each call answers. -/
import Derived.Test.YtdnfggjklblpnaaJ04
import Derived.OrdersHeld
import Derived.Deep.RegionHeld3
namespace Go.Proofs.Ytdnfggjklblpnaa
open Go.RowKit

set_option maxRecDepth 100000 in
theorem yields_winL {ops : Array Oper} {S : World → Prop} {o : Oper} {a : Act} (hw : Region.wanted o (yielded ops a.tmps) = true) (p : Operand) (ho : o.op = .load 25 p) (g : Nat) (hx : a.eval p = .pointer (some ⟨g, 0, none⟩)) (C : Array Value)
    (hS : ∀ w, S w → (Instr.loadAt 25 (.pointer (some ⟨g, 0, none⟩))).run Try.prog w = .ok (.agg C) w) : YieldsIf Try.prog ops S o (.agg C) a :=
  .inl ⟨hw, fun w hw' => by
    unfold execOp
    simp only [ho, hx, Sem.run_bind, Sem.run_pure, Result.andThen_ok, hS w hw']⟩
/-- no bit stands at a place of a number to come -/
def NoneW (a : Wn) (T : Nat) : Prop := ∀ p, T ≤ p → p < 1024 → hasW a p = false
set_option maxRecDepth 100000 in
theorem clr_same {a x : Wn} {T : Nat} (h64 : W64 a) (hT : T < 1024) (h : ClrW a T (1024 - T) x) : SameW a x ↔ NoneW a T := by
  constructor
  · intro hs p h1 h2
    rw [hs.has h2, h.2.2 p h2]
    unfold clrG
    rw [decide_eq_false (by omega), Bool.and_false]
  · intro hn
    refine same_of_has h64 h.1 h.2.1.symm (fun p hp => ?_)
    rw [h.2.2 p hp]
    unfold clrG
    by_cases hlt : p < T
    · rw [decide_eq_true (by omega), Bool.and_true]
    · rw [hn p (by omega) hp, Bool.false_and]
set_option maxRecDepth 100000 in
theorem right_iff {a : Wn} {T : Nat} (hT : a.top = (T : Int)) (hb : T ≤ 4611686018427387905) : RightW a ↔ ((T = 0 ∨ hasW a ((T - 1) % 1024) = true) ∧ (1024 ≤ T ∨ NoneW a T)) := by
  unfold RightW most NoneW
  rw [hT, show ((T : Int) - 1).toNat % 1024 = (T - 1) % 1024 by omega]
  constructor
  · rintro ⟨-, -, h1, h2⟩
    exact ⟨h2.imp (fun h => by omega) id, .inr (fun p h3 h4 => h1 p (by omega) h4)⟩
  · rintro ⟨h1, h2⟩
    exact ⟨by omega, by omega, fun p h3 h4 => by rcases h2 with h2 | h2; omega; exact h2 p (by omega) h4, h1.imp (fun h => by omega) id⟩
instance (a : Wn) (T : Nat) : Decidable (NoneW a T) := decidable_of_iff (∀ p : Fin 1024, T ≤ p.1 → hasW a p.1 = false) ⟨fun h p h1 h2 => h ⟨p, h2⟩ h1, fun h p h1 => h p.1 h1 p.2⟩
set_option maxRecDepth 100000 in
set_option maxHeartbeats 4000000 in
theorem wRight0_any (a : Wn) (h64 : W64 a) (ht : B64w a.top) (W : World) : Calls Try.prog 12 #[.agg (winC a)] W fun e W' => e = .returned (.bool (decide (RightW a))) ∧ Below W.heap.size W W' := by
  obtain ⟨V0, C, hC, hV, hb, hg⟩ := boxW1 W a
  have HB := Lib.hid hb
  have HV := Lib.hid hV
  have G0 := Lib.hid hg
  have x0 := hg.cell (winC_top a)
  rw [← hC]
  obtain ⟨D, hD⟩ : ∃ D, D = decide (RightW a) := ⟨_, rfl⟩
  rw [← hD]
  have HDE := Lib.hid hD
  obtain ⟨t, htt⟩ : ∃ t, t = a.top := ⟨_, rfl⟩
  rw [← htt] at x0 ht
  have HT := Lib.hid htt
  obtain ⟨t1, t2⟩ := ht
  clear hg hb hC hV hD htt
  by_cases h1 : t < 0
  · have HF := Lib.hid (show D = false by rw [HDE.out]; exact decide_eq_false (fun h => by have := h.1; rw [← HT.out] at this; omega))
    clear HDE h64
    go_enter Try.func12, Try.ntmps12
    go_upto_region 1 with (fail)
    rw [← HV.out]
    go_wp2
    go_ret
    exact ⟨by rw [HF.out]; rfl, HB.out⟩
  by_cases h2 : 4611686018427387905 < t
  · have HF := Lib.hid (show D = false by rw [HDE.out]; exact decide_eq_false (fun h => by have := h.2.1; rw [← HT.out] at this; unfold most at this; omega))
    clear HDE h64
    go_enter Try.func12, Try.ntmps12
    go_upto_region 1 with (fail)
    rw [← HV.out]
    go_wp2
    go_ret
    exact ⟨by rw [HF.out]; rfl, HB.out⟩
  obtain ⟨T, rfl⟩ := Int.eq_ofNat_of_zero_le (show 0 ≤ t by omega)
  have hTb : T ≤ 4611686018427387905 := by omega
  have HIFF := Lib.hid (right_iff HT.out.symm hTb)
  have HFIN : ∀ q : Bool, (1024 ≤ T ∨ NoneW a T ↔ q = true) → (T = 0 ∨ hasW a ((T - 1) % 1024) = true) → D = q := fun q hq h3 => by
    rw [HDE.out, Bool.eq_iff_iff, decide_eq_true_iff, HIFF.out, ← hq]
    exact ⟨fun h => h.2, fun h => ⟨h3, h⟩⟩
  have HFN := Lib.hid HFIN
  have HFX := Lib.hid (show ¬ (T = 0 ∨ hasW a ((T - 1) % 1024) = true) → D = false from fun hn => by rw [HDE.out]; exact decide_eq_false (fun h => hn (HIFF.out.1 h).1))
  clear HDE HIFF HFIN
  have CC := Lib.hid (fun (h : T < 1024) w => wcleared_any a h64 T (1024 - T) HT.out.symm hTb (by omega) w)
  have HCS := Lib.hid (fun (x : Wn) (hT : T < 1024) (h : ClrW a T (1024 - T) x) => clr_same h64 hT h)
  by_cases h0 : T = 0
  · have h0i : ¬ (0 : Int) < (T : Int) := by omega
    have HFQ := Lib.hid (fun q hq => HFN.out q hq (.inl h0))
    have HTC := Lib.hid (show (winC a)[0]? = some (.int .i64 (T : Int)) from by rw [winC_top, ← HT.out])
    clear HFN HFX
    subst h0
    go_enter Try.func12, Try.ntmps12
    go_upto_region 1 with (fail)
    rw [← HV.out]
    clear HV
    go_upto_region 5 with (fail)
    · have CK := Lib.hid (fun w => (show Calls Try.prog 19 #[.agg (winC a), .int .i64 1024] w fun e W' => (∃ x, e = .returned (.agg (winC x)) ∧ ClrW a 0 1024 x) ∧ Below w.heap.size w W' from CC.out (by omega) w))
      have HSM := Lib.hid (fun x (h : ClrW a 0 1024 x) => HCS.out x (by omega) h)
      have HNB := Lib.hid (show ¬ 1024 ≤ 0 by omega)
      clear CC HCS
      have BB0 := Lib.hid ((Below.refl V0.heap.size V0).drew)
      have F0 := Lib.hid (fun w (h : Below V0.heap.size V0 w) => belG HB.out h HB.out.size)
      have KEEP := Lib.hid (fun w' (hW : Below V0.heap.size V0 w') => (show Below V0.heap.size V0 w' ∧ w'.cell? ⟨W.heap.size, 0, none⟩ = some (.int .i64 0) from ⟨hW, (BoxW.old G0.out hW (Nat.le_refl _)).cell HTC.out⟩))
      refine wp_region_noPanic ?_
      refine wp_region_held_drew (S := fun w' => Below V0.heap.size V0 w' ∧ w'.cell? ⟨W.heap.size, 0, none⟩ = some (.int .i64 0)) (by kernel_rfl) (KEEP.out _ BB0.out) (fun hHeld => ?_)
      repeat (first
        | (refine wpAnyH_take (i := 0) (oi := ?_) (v := ?_) ?_ (by kernel_rfl) (by decide +kernel) (by decide +kernel) (fun _ _ _ h => h) ?_ (by assumption) ?_; rotate_left 2; (focus (simp only [List.getElem?_toArray, List.getElem?_cons_zero] <;> rfl)); (focus (refine Or.inl ⟨by rfl, ?_⟩; intro w hSw; (try dsimp only at hSw); obtain ⟨hS1, hS2⟩ := hSw; go_simp <;> with_reducible rfl)); (try simp only [Act.put, List.setIfInBounds_toArray, List.set_cons_zero, List.set_cons_succ]))
        | (refine wpAnyH_take (i := 1) (oi := ?_) (v := ?_) ?_ (by kernel_rfl) (by decide +kernel) (by decide +kernel) (fun _ _ _ h => h) ?_ (by assumption) ?_; rotate_left 2; (focus (simp only [List.getElem?_toArray, List.getElem?_cons_succ, List.getElem?_cons_zero] <;> rfl)); (focus (refine Or.inl ⟨by rfl, ?_⟩; intro w hSw; (try dsimp only at hSw); obtain ⟨hS1, hS2⟩ := hSw; go_simp <;> with_reducible rfl)); (try simp only [Act.put, List.setIfInBounds_toArray, List.set_cons_zero, List.set_cons_succ]))
        | (refine wpAnyH_take (i := 2) (oi := ?_) (v := ?_) ?_ (by kernel_rfl) (by decide +kernel) (by decide +kernel) (fun _ _ _ h => h) ?_ (by assumption) ?_; rotate_left 2; (focus (simp only [List.getElem?_toArray, List.getElem?_cons_succ, List.getElem?_cons_zero] <;> rfl)); (focus (refine Or.inl ⟨by rfl, ?_⟩; intro w hSw; (try dsimp only at hSw); obtain ⟨hS1, hS2⟩ := hSw; go_simp <;> with_reducible rfl)); (try simp only [Act.put, List.setIfInBounds_toArray, List.set_cons_zero, List.set_cons_succ]))
        | (refine wpAnyH_take (i := 3) (oi := ?_) (v := ?_) ?_ (by kernel_rfl) (by decide +kernel) (by decide +kernel) (fun _ _ _ h => h) ?_ (by assumption) ?_; rotate_left 2; (focus (simp only [List.getElem?_toArray, List.getElem?_cons_succ, List.getElem?_cons_zero] <;> rfl)); (focus (refine Or.inl ⟨by rfl, ?_⟩; intro w hSw; (try dsimp only at hSw); obtain ⟨hS1, hS2⟩ := hSw; go_simp <;> with_reducible rfl)); (try simp only [Act.put, List.setIfInBounds_toArray, List.set_cons_zero, List.set_cons_succ]))
        | (refine wpAnyH_take (i := 4) (oi := ?_) (v := .agg (winC a)) ?_ (by kernel_rfl) (by decide +kernel) (by decide +kernel) (fun _ _ _ h => h) ?_ (by assumption) ?_; rotate_left 1; (focus (simp only [List.getElem?_toArray, List.getElem?_cons_succ, List.getElem?_cons_zero] <;> rfl)); (focus (refine yields_winL ?_ (.tmp 1) ?_ (W.heap.size) ?_ (winC a) ?_; (focus rfl); (focus exact rfl); (focus exact rfl); exact fun w hSw => run_loadW (BoxW.old G0.out hSw.1 (Nat.le_refl _)))); (try simp only [Act.put, List.setIfInBounds_toArray, List.set_cons_zero, List.set_cons_succ]))
        | (refine wpAnyH_take (i := 5) (oi := ?_) (v := .agg (winC a)) ?_ (by kernel_rfl) (by decide +kernel) (by decide +kernel) (fun _ _ _ h => h) ?_ (by assumption) ?_; rotate_left 1; (focus (simp only [List.getElem?_toArray, List.getElem?_cons_succ, List.getElem?_cons_zero] <;> rfl)); (focus (refine yields_winL ?_ (.tmp 1) ?_ (W.heap.size) ?_ (winC a) ?_; (focus rfl); (focus exact rfl); (focus exact rfl); exact fun w hSw => run_loadW (BoxW.old G0.out hSw.1 (Nat.le_refl _)))); (try simp only [Act.put, List.setIfInBounds_toArray, List.set_cons_zero, List.set_cons_succ]))
        | (refine wpAnyH_take (i := 6) (oi := ?_) (v := ?_) ?_ (by kernel_rfl) (by decide +kernel) (by decide +kernel) (fun _ _ _ h => h) ?_ (by assumption) ?_; rotate_left 2; (focus (simp only [List.getElem?_toArray, List.getElem?_cons_succ, List.getElem?_cons_zero] <;> rfl)); (focus (refine Or.inl ⟨by rfl, ?_⟩; intro w hSw; (try dsimp only at hSw); obtain ⟨hS1, hS2⟩ := hSw; go_simp <;> with_reducible rfl)); (try simp only [Act.put, List.setIfInBounds_toArray, List.set_cons_zero, List.set_cons_succ]))
        | (refine wpAnyH_take (i := 7) (oi := ?_) (v := ?_) ?_ (by kernel_rfl) (by decide +kernel) (by decide +kernel) (fun _ _ _ h => h) ?_ (by assumption) ?_; rotate_left 2; (focus (simp only [List.getElem?_toArray, List.getElem?_cons_succ, List.getElem?_cons_zero] <;> rfl)); (focus (refine Or.inl ⟨by rfl, ?_⟩; intro w hSw; (try dsimp only at hSw); obtain ⟨hS1, hS2⟩ := hSw; go_simp <;> with_reducible rfl)); (try simp only [Act.put, List.setIfInBounds_toArray, List.set_cons_zero, List.set_cons_succ]))
        | (refine wpAnyH_take (i := 8) (oi := ?_) (v := ?_) ?_ (by kernel_rfl) (by decide +kernel) (by decide +kernel) (fun _ _ _ h => h) ?_ (by assumption) ?_; rotate_left 2; (focus (simp only [List.getElem?_toArray, List.getElem?_cons_succ, List.getElem?_cons_zero] <;> rfl)); (focus (refine Or.inl ⟨by rfl, ?_⟩; intro w hSw; (try dsimp only at hSw); obtain ⟨hS1, hS2⟩ := hSw; go_simp <;> with_reducible rfl)); (try simp only [Act.put, List.setIfInBounds_toArray, List.set_cons_zero, List.set_cons_succ]))
        | (refine wpAnyH_take (i := 10) (oi := ?_) (v := ?_) ?_ (by kernel_rfl) (by decide +kernel) (by decide +kernel) (fun _ _ _ h => h) ?_ (by assumption) ?_; rotate_left 2; (focus (simp only [List.getElem?_toArray, List.getElem?_cons_succ, List.getElem?_cons_zero] <;> rfl)); (focus (refine Or.inl ⟨by rfl, ?_⟩; intro w hSw; (try dsimp only at hSw); obtain ⟨hS1, hS2⟩ := hSw; go_simp <;> with_reducible rfl)); (try simp only [Act.put, List.setIfInBounds_toArray, List.set_cons_zero, List.set_cons_succ]))
        | (refine wpAnyH_take (i := 11) (oi := ?_) (v := ?_) ?_ (by kernel_rfl) (by decide +kernel) (by decide +kernel) (fun _ _ _ h => h) ?_ (by assumption) ?_; rotate_left 2; (focus (simp only [List.getElem?_toArray, List.getElem?_cons_succ, List.getElem?_cons_zero] <;> rfl)); (focus (refine Or.inl ⟨by rfl, ?_⟩; intro w hSw; (try dsimp only at hSw); obtain ⟨hS1, hS2⟩ := hSw; go_simp <;> with_reducible rfl)); (try simp only [Act.put, List.setIfInBounds_toArray, List.set_cons_zero, List.set_cons_succ]))
        | (refine wpAnyH_take (i := 12) (oi := ?_) (v := ?_) ?_ (by kernel_rfl) (by decide +kernel) (by decide +kernel) (fun _ _ _ h => h) ?_ (by assumption) ?_; rotate_left 2; (focus (simp only [List.getElem?_toArray, List.getElem?_cons_succ, List.getElem?_cons_zero] <;> rfl)); (focus (refine Or.inl ⟨by rfl, ?_⟩; intro w hSw; (try dsimp only at hSw); obtain ⟨hS1, hS2⟩ := hSw; go_simp <;> with_reducible rfl)); (try simp only [Act.put, List.setIfInBounds_toArray, List.set_cons_zero, List.set_cons_succ])))
      refine wpAnyH_ready (rs := [9]) (by decide +kernel) (by simp) ?_
      refine AllReadyH.cons rfl (fun K hK => ?_) AllReadyH.nil
      go_simp
      go_at_call 19
      refine (CK.out _).mono ?_
      rintro e wz0 ⟨⟨x, rfl, hcl⟩, hb⟩
      have BB1 := Lib.hid (belG BB0.out hb BB0.out.size)
      have HQ : D = decide (SameW a x) := HFQ.out _ ⟨fun h => decide_eq_true ((HSM.out x hcl).2 (h.resolve_left HNB.out)), fun h => .inr ((HSM.out x hcl).1 (of_decide_eq_true h))⟩
      have heq := fun W => run_eqlW W a x
      simp only [← HQ] at heq
      clear hb hcl HQ
      refine hK.out _ _ (KEEP.out _ BB1.out) (fun hHeld => ?_)
      clear hK K
      (try simp only [Act.put, List.setIfInBounds_toArray, List.set_cons_zero, List.set_cons_succ])
      repeat (first
        | (refine wpAnyH_take (i := 0) (oi := ?_) (v := ?_) ?_ (by kernel_rfl) (by decide +kernel) (by decide +kernel) (fun _ _ _ h => h) ?_ (by assumption) ?_; rotate_left 2; (focus (simp only [List.getElem?_toArray, List.getElem?_cons_succ, List.getElem?_cons_zero] <;> rfl)); (focus (refine Or.inl ⟨by rfl, ?_⟩; intro w hSw; (try dsimp only at hSw); obtain ⟨hS1, hS2⟩ := hSw; go_simp <;> with_reducible rfl)); (try simp only [Act.put, List.setIfInBounds_toArray, List.set_cons_zero, List.set_cons_succ]))
        | (refine wpAnyH_take (i := 1) (oi := ?_) (v := ?_) ?_ (by kernel_rfl) (by decide +kernel) (by decide +kernel) (fun _ _ _ h => h) ?_ (by assumption) ?_; rotate_left 2; (focus (simp only [List.getElem?_toArray, List.getElem?_cons_succ, List.getElem?_cons_zero] <;> rfl)); (focus (refine Or.inl ⟨by rfl, ?_⟩; intro w hSw; (try dsimp only at hSw); obtain ⟨hS1, hS2⟩ := hSw; go_simp <;> with_reducible rfl)); (try simp only [Act.put, List.setIfInBounds_toArray, List.set_cons_zero, List.set_cons_succ]))
        | (refine wpAnyH_take (i := 2) (oi := ?_) (v := ?_) ?_ (by kernel_rfl) (by decide +kernel) (by decide +kernel) (fun _ _ _ h => h) ?_ (by assumption) ?_; rotate_left 2; (focus (simp only [List.getElem?_toArray, List.getElem?_cons_succ, List.getElem?_cons_zero] <;> rfl)); (focus (refine Or.inl ⟨by rfl, ?_⟩; intro w hSw; (try dsimp only at hSw); obtain ⟨hS1, hS2⟩ := hSw; go_simp <;> with_reducible rfl)); (try simp only [Act.put, List.setIfInBounds_toArray, List.set_cons_zero, List.set_cons_succ]))
        | (refine wpAnyH_take (i := 3) (oi := ?_) (v := ?_) ?_ (by kernel_rfl) (by decide +kernel) (by decide +kernel) (fun _ _ _ h => h) ?_ (by assumption) ?_; rotate_left 2; (focus (simp only [List.getElem?_toArray, List.getElem?_cons_succ, List.getElem?_cons_zero] <;> rfl)); (focus (refine Or.inl ⟨by rfl, ?_⟩; intro w hSw; (try dsimp only at hSw); obtain ⟨hS1, hS2⟩ := hSw; go_simp <;> with_reducible rfl)); (try simp only [Act.put, List.setIfInBounds_toArray, List.set_cons_zero, List.set_cons_succ]))
        | (refine wpAnyH_take (i := 4) (oi := ?_) (v := .agg (winC a)) ?_ (by kernel_rfl) (by decide +kernel) (by decide +kernel) (fun _ _ _ h => h) ?_ (by assumption) ?_; rotate_left 1; (focus (simp only [List.getElem?_toArray, List.getElem?_cons_succ, List.getElem?_cons_zero] <;> rfl)); (focus (refine yields_winL ?_ (.tmp 1) ?_ (W.heap.size) ?_ (winC a) ?_; (focus rfl); (focus exact rfl); (focus exact rfl); exact fun w hSw => run_loadW (BoxW.old G0.out hSw.1 (Nat.le_refl _)))); (try simp only [Act.put, List.setIfInBounds_toArray, List.set_cons_zero, List.set_cons_succ]))
        | (refine wpAnyH_take (i := 5) (oi := ?_) (v := .agg (winC a)) ?_ (by kernel_rfl) (by decide +kernel) (by decide +kernel) (fun _ _ _ h => h) ?_ (by assumption) ?_; rotate_left 1; (focus (simp only [List.getElem?_toArray, List.getElem?_cons_succ, List.getElem?_cons_zero] <;> rfl)); (focus (refine yields_winL ?_ (.tmp 1) ?_ (W.heap.size) ?_ (winC a) ?_; (focus rfl); (focus exact rfl); (focus exact rfl); exact fun w hSw => run_loadW (BoxW.old G0.out hSw.1 (Nat.le_refl _)))); (try simp only [Act.put, List.setIfInBounds_toArray, List.set_cons_zero, List.set_cons_succ]))
        | (refine wpAnyH_take (i := 6) (oi := ?_) (v := ?_) ?_ (by kernel_rfl) (by decide +kernel) (by decide +kernel) (fun _ _ _ h => h) ?_ (by assumption) ?_; rotate_left 2; (focus (simp only [List.getElem?_toArray, List.getElem?_cons_succ, List.getElem?_cons_zero] <;> rfl)); (focus (refine Or.inl ⟨by rfl, ?_⟩; intro w hSw; (try dsimp only at hSw); obtain ⟨hS1, hS2⟩ := hSw; go_simp <;> with_reducible rfl)); (try simp only [Act.put, List.setIfInBounds_toArray, List.set_cons_zero, List.set_cons_succ]))
        | (refine wpAnyH_take (i := 7) (oi := ?_) (v := ?_) ?_ (by kernel_rfl) (by decide +kernel) (by decide +kernel) (fun _ _ _ h => h) ?_ (by assumption) ?_; rotate_left 2; (focus (simp only [List.getElem?_toArray, List.getElem?_cons_succ, List.getElem?_cons_zero] <;> rfl)); (focus (refine Or.inl ⟨by rfl, ?_⟩; intro w hSw; (try dsimp only at hSw); obtain ⟨hS1, hS2⟩ := hSw; go_simp <;> with_reducible rfl)); (try simp only [Act.put, List.setIfInBounds_toArray, List.set_cons_zero, List.set_cons_succ]))
        | (refine wpAnyH_take (i := 8) (oi := ?_) (v := ?_) ?_ (by kernel_rfl) (by decide +kernel) (by decide +kernel) (fun _ _ _ h => h) ?_ (by assumption) ?_; rotate_left 2; (focus (simp only [List.getElem?_toArray, List.getElem?_cons_succ, List.getElem?_cons_zero] <;> rfl)); (focus (refine Or.inl ⟨by rfl, ?_⟩; intro w hSw; (try dsimp only at hSw); obtain ⟨hS1, hS2⟩ := hSw; go_simp <;> with_reducible rfl)); (try simp only [Act.put, List.setIfInBounds_toArray, List.set_cons_zero, List.set_cons_succ]))
        | (refine wpAnyH_take (i := 10) (oi := ?_) (v := ?_) ?_ (by kernel_rfl) (by decide +kernel) (by decide +kernel) (fun _ _ _ h => h) ?_ (by assumption) ?_; rotate_left 2; (focus (simp only [List.getElem?_toArray, List.getElem?_cons_succ, List.getElem?_cons_zero] <;> rfl)); (focus (refine Or.inl ⟨by rfl, ?_⟩; intro w hSw; (try dsimp only at hSw); obtain ⟨hS1, hS2⟩ := hSw; go_simp <;> with_reducible rfl)); (try simp only [Act.put, List.setIfInBounds_toArray, List.set_cons_zero, List.set_cons_succ]))
        | (refine wpAnyH_take (i := 11) (oi := ?_) (v := ?_) ?_ (by kernel_rfl) (by decide +kernel) (by decide +kernel) (fun _ _ _ h => h) ?_ (by assumption) ?_; rotate_left 2; (focus (simp only [List.getElem?_toArray, List.getElem?_cons_succ, List.getElem?_cons_zero] <;> rfl)); (focus (refine Or.inl ⟨by rfl, ?_⟩; intro w hSw; (try dsimp only at hSw); obtain ⟨hS1, hS2⟩ := hSw; go_simp <;> with_reducible rfl)); (try simp only [Act.put, List.setIfInBounds_toArray, List.set_cons_zero, List.set_cons_succ]))
        | (refine wpAnyH_take (i := 12) (oi := ?_) (v := ?_) ?_ (by kernel_rfl) (by decide +kernel) (by decide +kernel) (fun _ _ _ h => h) ?_ (by assumption) ?_; rotate_left 2; (focus (simp only [List.getElem?_toArray, List.getElem?_cons_succ, List.getElem?_cons_zero] <;> rfl)); (focus (refine Or.inl ⟨by rfl, ?_⟩; intro w hSw; (try dsimp only at hSw); obtain ⟨hS1, hS2⟩ := hSw; go_simp <;> with_reducible rfl)); (try simp only [Act.put, List.setIfInBounds_toArray, List.set_cons_zero, List.set_cons_succ])))
      refine wpAnyH_done (by decide +kernel) ?_ _
      refine NoPanic.normal ?_
      clear KEEP
      have nHB := Lib.hid (F0.out _ BB1.out)
      go_wp2_with fail
      go_ret
      exact ⟨by first | rfl | simp, nHB.out⟩

  · have h0i : (0 : Int) < (T : Int) := by omega
    have hd0 : decide ((0 : Int) < (T : Int)) = true := decide_eq_true h0i
    have hd1 : decide (0 < T) = true := decide_eq_true (by omega)
    obtain ⟨q, hq⟩ : ∃ q, q = (T - 1) % 1024 := ⟨_, rfl⟩
    obtain ⟨N1, hN1⟩ : ∃ N1, N1 = T - 1 := ⟨_, rfl⟩
    have hN1i : (T : Int) - 1 = (N1 : Int) := by omega
    have CM := Lib.hid (fun w => wmarked_any a h64 (N1 : Int) (by constructor <;> omega) q (by omega) w)
    have HTC := Lib.hid (show (winC a)[0]? = some (.int .i64 (T : Int)) from by rw [winC_top, ← HT.out])
    rw [← hq] at HFN HFX
    have HFQ0 := Lib.hid (fun (h : hasW a q = true) p hp => HFN.out p hp (.inr h))
    have HFX0 := Lib.hid (fun (h : hasW a q = false) => HFX.out (by rintro (h1 | h1); exact h0 h1; rw [h] at h1; cases h1))
    clear HFN HFX hq hN1
    go_enter Try.func12, Try.ntmps12
    go_upto_region 1 with (fail)
    rw [← HV.out]
    clear HV
    go_wp2_with (refine loadW _ (.tmp 1) W.heap.size a G0.out rfl rfl rfl ?_)
    refine (CM.out _).mono ?_
    rintro e V1 ⟨rfl, hb⟩
    have nHB := Lib.hid (belG HB.out hb HB.out.size)
    have nG0 := Lib.hid (G0.out.old hb (Nat.le_refl _))
    have nx0 := nG0.out.cell HTC.out
    clear hb HB G0 x0 CM
    have HB := nHB
    have G0 := nG0
    have x0 := nx0
    clear nHB nG0 nx0
    generalize hasW a q = u at *
    cases u with
    | false =>
      obtain rfl := HFX0.out rfl
      clear CC HCS HFQ0 HFX0
      go_wp2_with fail
      go_ret
      exact ⟨by first | rfl | simp, HB.out⟩
    | true =>
      have HFQ := Lib.hid (HFQ0.out rfl)
      clear HFQ0 HFX0
      go_upto_region 5 with (fail)
      by_cases hbig : 1024 ≤ T
      · have hbi : (1024 : Int) ≤ (T : Int) := by omega
        have hbd : decide ((1024 : Int) ≤ (T : Int)) = true := decide_eq_true hbi
        have hbe : decide (1024 ≤ T) = true := decide_eq_true hbig
        obtain rfl : D = true := HFQ.out true ⟨fun _ => rfl, fun _ => .inl hbig⟩
        clear CC HCS HFQ
        have HDR := Lib.hid (fun k => below_drewN HB.out k)
        go_wp2_with fail
        go_quiet (fail)
        go_wp2_with fail
        go_ret
        exact ⟨by first | rfl | simp, HDR.out _⟩
      · have hbi : ¬ (1024 : Int) ≤ (T : Int) := by omega
        have hbd : decide ((1024 : Int) ≤ (T : Int)) = false := decide_eq_false hbi
        have hbe : decide (1024 ≤ T) = false := decide_eq_false hbig
        obtain ⟨M, hM⟩ : ∃ M, M = 1024 - T := ⟨_, rfl⟩
        have hMi : (1024 : Int) - (T : Int) = (M : Int) := by omega
        have hMw : IntKind.i64.wrap (M : Int) = (M : Int) := by rw [IntKind.wrap_i64]; omega
        have hMv : IntKind.i64.wrap ((1024 : Int) - (T : Int)) = (M : Int) := by rw [hMi]; exact hMw
        have CK := Lib.hid (fun w => CC.out (by omega) w)
        have HSM := Lib.hid (fun x h => HCS.out x (by omega) h)
        have HNB := Lib.hid hbig
        rw [← hM] at CK HSM
        clear CC HCS hM hbig
        go_upto_region 5 with (fail)
        have BB0 := Lib.hid ((Below.refl V1.heap.size V1).drew)
        have F0 := Lib.hid (fun w (h : Below V1.heap.size V1 w) => belG HB.out h HB.out.size)
        have KEEP := Lib.hid (fun w' (hW : Below V1.heap.size V1 w') => (show Below V1.heap.size V1 w' ∧ w'.cell? ⟨W.heap.size, 0, none⟩ = some (.int .i64 (T : Int)) from ⟨hW, (BoxW.old G0.out hW (Nat.le_refl _)).cell HTC.out⟩))
        refine wp_region_noPanic ?_
        refine wp_region_held_drew (S := fun w' => Below V1.heap.size V1 w' ∧ w'.cell? ⟨W.heap.size, 0, none⟩ = some (.int .i64 (T : Int))) (by kernel_rfl) (KEEP.out _ BB0.out) (fun hHeld => ?_)
        repeat (first
          | (refine wpAnyH_take (i := 0) (oi := ?_) (v := ?_) ?_ (by kernel_rfl) (by decide +kernel) (by decide +kernel) (fun _ _ _ h => h) ?_ (by assumption) ?_; rotate_left 2; (focus (simp only [List.getElem?_toArray, List.getElem?_cons_zero] <;> rfl)); (focus (refine Or.inl ⟨by rfl, ?_⟩; intro w hSw; (try dsimp only at hSw); obtain ⟨hS1, hS2⟩ := hSw; go_simp <;> with_reducible rfl)); (try simp only [Act.put, List.setIfInBounds_toArray, List.set_cons_zero, List.set_cons_succ]))
          | (refine wpAnyH_take (i := 1) (oi := ?_) (v := ?_) ?_ (by kernel_rfl) (by decide +kernel) (by decide +kernel) (fun _ _ _ h => h) ?_ (by assumption) ?_; rotate_left 2; (focus (simp only [List.getElem?_toArray, List.getElem?_cons_succ, List.getElem?_cons_zero] <;> rfl)); (focus (refine Or.inl ⟨by rfl, ?_⟩; intro w hSw; (try dsimp only at hSw); obtain ⟨hS1, hS2⟩ := hSw; go_simp <;> with_reducible rfl)); (try simp only [Act.put, List.setIfInBounds_toArray, List.set_cons_zero, List.set_cons_succ]))
          | (refine wpAnyH_take (i := 2) (oi := ?_) (v := ?_) ?_ (by kernel_rfl) (by decide +kernel) (by decide +kernel) (fun _ _ _ h => h) ?_ (by assumption) ?_; rotate_left 2; (focus (simp only [List.getElem?_toArray, List.getElem?_cons_succ, List.getElem?_cons_zero] <;> rfl)); (focus (refine Or.inl ⟨by rfl, ?_⟩; intro w hSw; (try dsimp only at hSw); obtain ⟨hS1, hS2⟩ := hSw; go_simp <;> with_reducible rfl)); (try simp only [Act.put, List.setIfInBounds_toArray, List.set_cons_zero, List.set_cons_succ]))
          | (refine wpAnyH_take (i := 3) (oi := ?_) (v := ?_) ?_ (by kernel_rfl) (by decide +kernel) (by decide +kernel) (fun _ _ _ h => h) ?_ (by assumption) ?_; rotate_left 2; (focus (simp only [List.getElem?_toArray, List.getElem?_cons_succ, List.getElem?_cons_zero] <;> rfl)); (focus (refine Or.inl ⟨by rfl, ?_⟩; intro w hSw; (try dsimp only at hSw); obtain ⟨hS1, hS2⟩ := hSw; go_simp <;> with_reducible rfl)); (try simp only [Act.put, List.setIfInBounds_toArray, List.set_cons_zero, List.set_cons_succ]))
          | (refine wpAnyH_take (i := 4) (oi := ?_) (v := .agg (winC a)) ?_ (by kernel_rfl) (by decide +kernel) (by decide +kernel) (fun _ _ _ h => h) ?_ (by assumption) ?_; rotate_left 1; (focus (simp only [List.getElem?_toArray, List.getElem?_cons_succ, List.getElem?_cons_zero] <;> rfl)); (focus (refine yields_winL ?_ (.tmp 1) ?_ (W.heap.size) ?_ (winC a) ?_; (focus rfl); (focus exact rfl); (focus exact rfl); exact fun w hSw => run_loadW (BoxW.old G0.out hSw.1 (Nat.le_refl _)))); (try simp only [Act.put, List.setIfInBounds_toArray, List.set_cons_zero, List.set_cons_succ]))
          | (refine wpAnyH_take (i := 5) (oi := ?_) (v := .agg (winC a)) ?_ (by kernel_rfl) (by decide +kernel) (by decide +kernel) (fun _ _ _ h => h) ?_ (by assumption) ?_; rotate_left 1; (focus (simp only [List.getElem?_toArray, List.getElem?_cons_succ, List.getElem?_cons_zero] <;> rfl)); (focus (refine yields_winL ?_ (.tmp 1) ?_ (W.heap.size) ?_ (winC a) ?_; (focus rfl); (focus exact rfl); (focus exact rfl); exact fun w hSw => run_loadW (BoxW.old G0.out hSw.1 (Nat.le_refl _)))); (try simp only [Act.put, List.setIfInBounds_toArray, List.set_cons_zero, List.set_cons_succ]))
          | (refine wpAnyH_take (i := 6) (oi := ?_) (v := ?_) ?_ (by kernel_rfl) (by decide +kernel) (by decide +kernel) (fun _ _ _ h => h) ?_ (by assumption) ?_; rotate_left 2; (focus (simp only [List.getElem?_toArray, List.getElem?_cons_succ, List.getElem?_cons_zero] <;> rfl)); (focus (refine Or.inl ⟨by rfl, ?_⟩; intro w hSw; (try dsimp only at hSw); obtain ⟨hS1, hS2⟩ := hSw; go_simp <;> with_reducible rfl)); (try simp only [Act.put, List.setIfInBounds_toArray, List.set_cons_zero, List.set_cons_succ]))
          | (refine wpAnyH_take (i := 7) (oi := ?_) (v := ?_) ?_ (by kernel_rfl) (by decide +kernel) (by decide +kernel) (fun _ _ _ h => h) ?_ (by assumption) ?_; rotate_left 2; (focus (simp only [List.getElem?_toArray, List.getElem?_cons_succ, List.getElem?_cons_zero] <;> rfl)); (focus (refine Or.inl ⟨by rfl, ?_⟩; intro w hSw; (try dsimp only at hSw); obtain ⟨hS1, hS2⟩ := hSw; go_simp <;> with_reducible rfl)); (try simp only [Act.put, List.setIfInBounds_toArray, List.set_cons_zero, List.set_cons_succ]))
          | (refine wpAnyH_take (i := 8) (oi := ?_) (v := ?_) ?_ (by kernel_rfl) (by decide +kernel) (by decide +kernel) (fun _ _ _ h => h) ?_ (by assumption) ?_; rotate_left 2; (focus (simp only [List.getElem?_toArray, List.getElem?_cons_succ, List.getElem?_cons_zero] <;> rfl)); (focus (refine Or.inl ⟨by rfl, ?_⟩; intro w hSw; (try dsimp only at hSw); obtain ⟨hS1, hS2⟩ := hSw; go_simp <;> with_reducible rfl)); (try simp only [Act.put, List.setIfInBounds_toArray, List.set_cons_zero, List.set_cons_succ]))
          | (refine wpAnyH_take (i := 10) (oi := ?_) (v := ?_) ?_ (by kernel_rfl) (by decide +kernel) (by decide +kernel) (fun _ _ _ h => h) ?_ (by assumption) ?_; rotate_left 2; (focus (simp only [List.getElem?_toArray, List.getElem?_cons_succ, List.getElem?_cons_zero] <;> rfl)); (focus (refine Or.inl ⟨by rfl, ?_⟩; intro w hSw; (try dsimp only at hSw); obtain ⟨hS1, hS2⟩ := hSw; go_simp <;> with_reducible rfl)); (try simp only [Act.put, List.setIfInBounds_toArray, List.set_cons_zero, List.set_cons_succ]))
          | (refine wpAnyH_take (i := 11) (oi := ?_) (v := ?_) ?_ (by kernel_rfl) (by decide +kernel) (by decide +kernel) (fun _ _ _ h => h) ?_ (by assumption) ?_; rotate_left 2; (focus (simp only [List.getElem?_toArray, List.getElem?_cons_succ, List.getElem?_cons_zero] <;> rfl)); (focus (refine Or.inl ⟨by rfl, ?_⟩; intro w hSw; (try dsimp only at hSw); obtain ⟨hS1, hS2⟩ := hSw; go_simp <;> with_reducible rfl)); (try simp only [Act.put, List.setIfInBounds_toArray, List.set_cons_zero, List.set_cons_succ]))
          | (refine wpAnyH_take (i := 12) (oi := ?_) (v := ?_) ?_ (by kernel_rfl) (by decide +kernel) (by decide +kernel) (fun _ _ _ h => h) ?_ (by assumption) ?_; rotate_left 2; (focus (simp only [List.getElem?_toArray, List.getElem?_cons_succ, List.getElem?_cons_zero] <;> rfl)); (focus (refine Or.inl ⟨by rfl, ?_⟩; intro w hSw; (try dsimp only at hSw); obtain ⟨hS1, hS2⟩ := hSw; go_simp <;> with_reducible rfl)); (try simp only [Act.put, List.setIfInBounds_toArray, List.set_cons_zero, List.set_cons_succ])))
        refine wpAnyH_ready (rs := [9]) (by decide +kernel) (by simp) ?_
        refine AllReadyH.cons rfl (fun K hK => ?_) AllReadyH.nil
        go_simp
        (try simp only [hMi, hMw, hMv])
        go_at_call 19
        refine (CK.out _).mono ?_
        rintro e wz0 ⟨⟨x, rfl, hcl⟩, hb⟩
        have BB1 := Lib.hid (belG BB0.out hb BB0.out.size)
        have HQ : D = decide (SameW a x) := HFQ.out _ ⟨fun h => decide_eq_true ((HSM.out x hcl).2 (h.resolve_left HNB.out)), fun h => .inr ((HSM.out x hcl).1 (of_decide_eq_true h))⟩
        have heq := fun W => run_eqlW W a x
        simp only [← HQ] at heq
        clear hb hcl HQ
        refine hK.out _ _ (KEEP.out _ BB1.out) (fun hHeld => ?_)
        clear hK K
        (try simp only [Act.put, List.setIfInBounds_toArray, List.set_cons_zero, List.set_cons_succ])
        repeat (first
          | (refine wpAnyH_take (i := 0) (oi := ?_) (v := ?_) ?_ (by kernel_rfl) (by decide +kernel) (by decide +kernel) (fun _ _ _ h => h) ?_ (by assumption) ?_; rotate_left 2; (focus (simp only [List.getElem?_toArray, List.getElem?_cons_succ, List.getElem?_cons_zero] <;> rfl)); (focus (refine Or.inl ⟨by rfl, ?_⟩; intro w hSw; (try dsimp only at hSw); obtain ⟨hS1, hS2⟩ := hSw; go_simp <;> with_reducible rfl)); (try simp only [Act.put, List.setIfInBounds_toArray, List.set_cons_zero, List.set_cons_succ]))
          | (refine wpAnyH_take (i := 1) (oi := ?_) (v := ?_) ?_ (by kernel_rfl) (by decide +kernel) (by decide +kernel) (fun _ _ _ h => h) ?_ (by assumption) ?_; rotate_left 2; (focus (simp only [List.getElem?_toArray, List.getElem?_cons_succ, List.getElem?_cons_zero] <;> rfl)); (focus (refine Or.inl ⟨by rfl, ?_⟩; intro w hSw; (try dsimp only at hSw); obtain ⟨hS1, hS2⟩ := hSw; go_simp <;> with_reducible rfl)); (try simp only [Act.put, List.setIfInBounds_toArray, List.set_cons_zero, List.set_cons_succ]))
          | (refine wpAnyH_take (i := 2) (oi := ?_) (v := ?_) ?_ (by kernel_rfl) (by decide +kernel) (by decide +kernel) (fun _ _ _ h => h) ?_ (by assumption) ?_; rotate_left 2; (focus (simp only [List.getElem?_toArray, List.getElem?_cons_succ, List.getElem?_cons_zero] <;> rfl)); (focus (refine Or.inl ⟨by rfl, ?_⟩; intro w hSw; (try dsimp only at hSw); obtain ⟨hS1, hS2⟩ := hSw; go_simp <;> with_reducible rfl)); (try simp only [Act.put, List.setIfInBounds_toArray, List.set_cons_zero, List.set_cons_succ]))
          | (refine wpAnyH_take (i := 3) (oi := ?_) (v := ?_) ?_ (by kernel_rfl) (by decide +kernel) (by decide +kernel) (fun _ _ _ h => h) ?_ (by assumption) ?_; rotate_left 2; (focus (simp only [List.getElem?_toArray, List.getElem?_cons_succ, List.getElem?_cons_zero] <;> rfl)); (focus (refine Or.inl ⟨by rfl, ?_⟩; intro w hSw; (try dsimp only at hSw); obtain ⟨hS1, hS2⟩ := hSw; go_simp <;> with_reducible rfl)); (try simp only [Act.put, List.setIfInBounds_toArray, List.set_cons_zero, List.set_cons_succ]))
          | (refine wpAnyH_take (i := 4) (oi := ?_) (v := .agg (winC a)) ?_ (by kernel_rfl) (by decide +kernel) (by decide +kernel) (fun _ _ _ h => h) ?_ (by assumption) ?_; rotate_left 1; (focus (simp only [List.getElem?_toArray, List.getElem?_cons_succ, List.getElem?_cons_zero] <;> rfl)); (focus (refine yields_winL ?_ (.tmp 1) ?_ (W.heap.size) ?_ (winC a) ?_; (focus rfl); (focus exact rfl); (focus exact rfl); exact fun w hSw => run_loadW (BoxW.old G0.out hSw.1 (Nat.le_refl _)))); (try simp only [Act.put, List.setIfInBounds_toArray, List.set_cons_zero, List.set_cons_succ]))
          | (refine wpAnyH_take (i := 5) (oi := ?_) (v := .agg (winC a)) ?_ (by kernel_rfl) (by decide +kernel) (by decide +kernel) (fun _ _ _ h => h) ?_ (by assumption) ?_; rotate_left 1; (focus (simp only [List.getElem?_toArray, List.getElem?_cons_succ, List.getElem?_cons_zero] <;> rfl)); (focus (refine yields_winL ?_ (.tmp 1) ?_ (W.heap.size) ?_ (winC a) ?_; (focus rfl); (focus exact rfl); (focus exact rfl); exact fun w hSw => run_loadW (BoxW.old G0.out hSw.1 (Nat.le_refl _)))); (try simp only [Act.put, List.setIfInBounds_toArray, List.set_cons_zero, List.set_cons_succ]))
          | (refine wpAnyH_take (i := 6) (oi := ?_) (v := ?_) ?_ (by kernel_rfl) (by decide +kernel) (by decide +kernel) (fun _ _ _ h => h) ?_ (by assumption) ?_; rotate_left 2; (focus (simp only [List.getElem?_toArray, List.getElem?_cons_succ, List.getElem?_cons_zero] <;> rfl)); (focus (refine Or.inl ⟨by rfl, ?_⟩; intro w hSw; (try dsimp only at hSw); obtain ⟨hS1, hS2⟩ := hSw; go_simp <;> with_reducible rfl)); (try simp only [Act.put, List.setIfInBounds_toArray, List.set_cons_zero, List.set_cons_succ]))
          | (refine wpAnyH_take (i := 7) (oi := ?_) (v := ?_) ?_ (by kernel_rfl) (by decide +kernel) (by decide +kernel) (fun _ _ _ h => h) ?_ (by assumption) ?_; rotate_left 2; (focus (simp only [List.getElem?_toArray, List.getElem?_cons_succ, List.getElem?_cons_zero] <;> rfl)); (focus (refine Or.inl ⟨by rfl, ?_⟩; intro w hSw; (try dsimp only at hSw); obtain ⟨hS1, hS2⟩ := hSw; go_simp <;> with_reducible rfl)); (try simp only [Act.put, List.setIfInBounds_toArray, List.set_cons_zero, List.set_cons_succ]))
          | (refine wpAnyH_take (i := 8) (oi := ?_) (v := ?_) ?_ (by kernel_rfl) (by decide +kernel) (by decide +kernel) (fun _ _ _ h => h) ?_ (by assumption) ?_; rotate_left 2; (focus (simp only [List.getElem?_toArray, List.getElem?_cons_succ, List.getElem?_cons_zero] <;> rfl)); (focus (refine Or.inl ⟨by rfl, ?_⟩; intro w hSw; (try dsimp only at hSw); obtain ⟨hS1, hS2⟩ := hSw; go_simp <;> with_reducible rfl)); (try simp only [Act.put, List.setIfInBounds_toArray, List.set_cons_zero, List.set_cons_succ]))
          | (refine wpAnyH_take (i := 10) (oi := ?_) (v := ?_) ?_ (by kernel_rfl) (by decide +kernel) (by decide +kernel) (fun _ _ _ h => h) ?_ (by assumption) ?_; rotate_left 2; (focus (simp only [List.getElem?_toArray, List.getElem?_cons_succ, List.getElem?_cons_zero] <;> rfl)); (focus (refine Or.inl ⟨by rfl, ?_⟩; intro w hSw; (try dsimp only at hSw); obtain ⟨hS1, hS2⟩ := hSw; go_simp <;> with_reducible rfl)); (try simp only [Act.put, List.setIfInBounds_toArray, List.set_cons_zero, List.set_cons_succ]))
          | (refine wpAnyH_take (i := 11) (oi := ?_) (v := ?_) ?_ (by kernel_rfl) (by decide +kernel) (by decide +kernel) (fun _ _ _ h => h) ?_ (by assumption) ?_; rotate_left 2; (focus (simp only [List.getElem?_toArray, List.getElem?_cons_succ, List.getElem?_cons_zero] <;> rfl)); (focus (refine Or.inl ⟨by rfl, ?_⟩; intro w hSw; (try dsimp only at hSw); obtain ⟨hS1, hS2⟩ := hSw; go_simp <;> with_reducible rfl)); (try simp only [Act.put, List.setIfInBounds_toArray, List.set_cons_zero, List.set_cons_succ]))
          | (refine wpAnyH_take (i := 12) (oi := ?_) (v := ?_) ?_ (by kernel_rfl) (by decide +kernel) (by decide +kernel) (fun _ _ _ h => h) ?_ (by assumption) ?_; rotate_left 2; (focus (simp only [List.getElem?_toArray, List.getElem?_cons_succ, List.getElem?_cons_zero] <;> rfl)); (focus (refine Or.inl ⟨by rfl, ?_⟩; intro w hSw; (try dsimp only at hSw); obtain ⟨hS1, hS2⟩ := hSw; go_simp <;> with_reducible rfl)); (try simp only [Act.put, List.setIfInBounds_toArray, List.set_cons_zero, List.set_cons_succ])))
        refine wpAnyH_done (by decide +kernel) ?_ _
        refine NoPanic.normal ?_
        clear KEEP
        have nHB := Lib.hid (F0.out _ BB1.out)
        go_wp2_with fail
        go_ret
        exact ⟨by first | rfl | simp, nHB.out⟩
set_option maxRecDepth 100000 in
theorem fresh_iff {a : Wn} {T : Nat} {n : Int} (hT : a.top = (T : Int)) : FreshW a n ↔ (0 ≤ n ∧ n ≤ most ∧ ((T : Int) ≤ n ∨ ((T : Int) - n ≤ 1024 ∧ hasW a (n.toNat % 1024) = false))) := by
  unfold FreshW
  rw [hT]
  constructor
  · rintro ⟨h1, h2, h3, h4⟩
    exact ⟨h1, h2, by rcases h4 with h4 | h4; exact .inl h4; by_cases h5 : (T : Int) ≤ n; exact .inl h5; exact .inr ⟨by omega, h4⟩⟩
  · rintro ⟨h1, h2, h3 | ⟨h3, h4⟩⟩
    · exact ⟨h1, h2, by omega, .inl h3⟩
    · exact ⟨h1, h2, by omega, .inr h4⟩
end Go.Proofs.Ytdnfggjklblpnaa
