
/- The document's answers (env): take, Read. -/
import Derived.Test.YtjkkceecagbjjaaJ13
namespace Go.Proofs.Ytjkkceecagbjjaa
open Go.RowKit

def we0 : We := ⟨(none, 0), (none, 0)⟩
set_option maxRecDepth 100000 in
theorem keyE0 (w : World) : KeyE w (none, 0) [] := ⟨Nat.le_refl _, (by decide : 0 ≤ 9223372036854775807), Rd.nil⟩
set_option maxRecDepth 100000 in
theorem envR0 (w : World) : EnvR w we0 ev0 := ⟨keyE0 w, keyE0 w⟩
set_option maxRecDepth 100000 in
theorem no8_env (x : We) (e : Ev) : No8 (envC x e) := by
  intro v hv n
  simp only [envC, List.mem_cons, List.not_mem_nil, or_false] at hv
  rcases hv with rfl | rfl | rfl | rfl | rfl | rfl | rfl | rfl <;> intro h <;> cases h
set_option maxRecDepth 100000 in
theorem KeyE.setRow {w : World} {g : Nat} {T : TypeId} {C C' : Array Value} {x : Wke} {l : List UInt8} (k : KeyE w x l) (hg : Bx w g T C) (hn : No8 C) : KeyE (w.setRow g C') x l := ⟨k.1, k.2.1, k.2.2.setRowX hg hn⟩
set_option maxRecDepth 100000 in
theorem EnvR.setRow {w : World} {g : Nat} {T : TypeId} {C C' : Array Value} {x : We} {e : Ev} (k : EnvR w x e) (hg : Bx w g T C) (hn : No8 C) : EnvR (w.setRow g C') x e := ⟨k.1.setRow hg hn, k.2.setRow hg hn⟩
/-- a call's answer: an envelope, and a number -/
def AnsEv (W' : World) (e : Ending) (r : Ev) (n : Int) : Prop := ∃ x, e = .returned (.tuple #[.agg (envC x r), .int .i64 n]) ∧ EnvR W' x r
set_option maxRecDepth 100000 in
theorem envEnd {W w : World} {g : Nat} {T : TypeId} {C : Array Value} {x : We} {r : Ev} {n : Int} (hb : Below W.heap.size W w) (hg : W.heap.size ≤ g) (hx : Bx w g T C) (hn : No8 C) (hr : EnvR w x r) :
    AnsEv (w.setRow g (envC x r)) (.returned (.tuple #[.agg (envC x r), .int .i64 n])) r n ∧ Below W.heap.size W (w.setRow g (envC x r)) := ⟨⟨x, rfl, hr.setRow hx hn⟩, Below.setRowG hb hg _⟩
set_option maxRecDepth 100000 in
theorem bxZE (W : World) : ∃ V, V = W.alloc (.cells #[.int .i64 0, .int .i64 0, .int .i64 0, .int .i64 0, .int .i64 0, .int .i64 0, .slice none 0 0, .slice none 0 0] 25) ∧ Below W.heap.size W V ∧ BxE V W.heap.size we0 ev0 := bx1 W 25 (envC we0 ev0)
set_option maxRecDepth 100000 in
theorem KeyE.cut {w : World} {ab ao c : Nat} {b : List UInt8} (h : KeyE w (some ⟨ab, ao, none⟩, c) b) (i j : Nat) (h1 : i + j ≤ b.length) : KeyE w (some ⟨ab, ao + i, none⟩, c - i) ((b.drop i).take j) := by
  have hlen : ((b.drop i).take j).length = j := by rw [List.length_take, List.length_drop]; omega
  have k1 : b.length ≤ c := h.1
  have k2 : c ≤ 9223372036854775807 := h.2.1
  refine ⟨by rw [hlen]; show j ≤ c - i; omega, by show c - i ≤ _; omega, fun h0 => ?_⟩
  rw [hlen] at h0
  obtain ⟨b', o', e, hb, hc⟩ := h.2.2 (by omega)
  simp only [Option.some.injEq, Addr.mk.injEq] at e
  obtain ⟨rfl, rfl, -⟩ := e
  refine ⟨ab, ao + i, rfl, hb, fun q hq => ?_⟩
  rw [hlen] at hq
  rw [Nat.add_assoc, hc (i + q) (by omega)]
  simp only [List.getElem_take, List.getElem_drop]
set_option maxRecDepth 100000 in
theorem take12_any (A : Option Addr) (b : List UInt8) (c p w : Nat) (W : World) (h1 : 1 ≤ w) (h2 : w ≤ 8) (hn : b.length ≤ 1000000) (h : p + w ≤ b.length) (hk : KeyE W (A, c) b) :
    Calls Try.prog 34 #[.slice A b.length c, .int .i64 p, .int .i64 w] W fun e W' => e = .returned (.int .i64 (tkE b p w)) ∧ W = W' := by
  have CT := Lib.hid (refTakeBig_any A b c p w W h1 h2 hn h hk.1 hk.2.2)
  unfold takeBigV at CT
  by_cases hl : numL ((b.drop p).take w) ≤ 9223372036854775807
  · have HT := Lib.hid (show tkE b p w = (numL ((b.drop p).take w) : Int) from by unfold tkE; rw [if_pos hl])
    rw [if_pos hl] at CT
    generalize numL ((b.drop p).take w) = q at *
    generalize b.length = n at *
    clear hk h h1 h2 hn hl
    go_enter Try.func34, Try.ntmps34
    go_wp2_with fail
    refine CT.out.mono ?_
    rintro e w1 ⟨rfl, hw⟩
    obtain rfl := hw
    go_wp2_with fail
    go_ret
    exact ⟨by rw [HT.out]; rfl, rfl⟩
  · have HT := Lib.hid (show tkE b p w = -1 from by unfold tkE; rw [if_neg hl])
    rw [if_neg hl] at CT
    generalize b.length = n at *
    clear hk h h1 h2 hn hl
    go_enter Try.func34, Try.ntmps34
    go_wp2_with fail
    refine CT.out.mono ?_
    rintro e w1 ⟨rfl, hw⟩
    obtain rfl := hw
    go_wp2_with fail
    go_ret
    exact ⟨by rw [HT.out]; rfl, rfl⟩
set_option maxRecDepth 100000 in
set_option maxHeartbeats 4000000 in
theorem read12_any (A : Option Addr) (b : List UInt8) (c : Nat) (W : World) (hl : b.length ≤ 100000) (hk : KeyE W (A, c) b) : Calls Try.prog 21 #[.slice A b.length c] W fun e W' => AnsEv W' e (readE b).1 (readE b).2 ∧ Below W.heap.size W W' := by
  obtain ⟨V, hV, hb, hg⟩ := bxZE W
  have HB := Lib.hid hb
  have HV := Lib.hid hV
  have J := Lib.hid hg
  have RB := Lib.hid (hk.go hb)
  obtain ⟨n, hn⟩ : ∃ n, n = b.length := ⟨_, rfl⟩
  have HN := Lib.hid hn
  clear hV hb hg
  by_cases h1 : b.length < 47
  · have HI := Lib.hid (show readE b = (ev0, 3) from by unfold readE; rw [if_pos h1])
    rw [← hn] at h1 ⊢
    clear hn hk hl
    go_enter Try.func21, Try.ntmps21
    go_upto_region 1 with (fail)
    rw [← HV.out]
    go_wp2_with (refine storeX (.tmp 2) (.tmp 10) W.heap.size (envC we0 ev0) _ tyEnv rfl (envC_one _ _) J.out rfl rfl rfl rfl rfl ?_)
    (try dsimp only)
    refine bodyPost_ret (retX2 rfl _ _ W.heap.size (envC we0 ev0) _ tyEnv rfl rfl rfl (Bx.setRow J.out _)) rfl ?_
    exact ⟨by rw [HI.out]; exact ⟨we0, rfl, envR0 _⟩, Below.setRowG HB.out (Nat.le_refl _) _⟩
  by_cases h2 : 946 < b.length
  · have HI := Lib.hid (show readE b = (ev0, 4) from by unfold readE; rw [if_neg h1, if_pos h2])
    rw [← hn] at h1 h2 hl ⊢
    clear hn hk
    go_enter Try.func21, Try.ntmps21
    go_upto_region 1 with (fail)
    rw [← HV.out]
    go_wp2_with (refine storeX (.tmp 2) (.tmp 14) W.heap.size (envC we0 ev0) _ tyEnv rfl (envC_one _ _) J.out rfl rfl rfl rfl rfl ?_)
    (try dsimp only)
    refine bodyPost_ret (retX2 rfl _ _ W.heap.size (envC we0 ev0) _ tyEnv rfl rfl rfl (Bx.setRow J.out _)) rfl ?_
    exact ⟨by rw [HI.out]; exact ⟨we0, rfl, envR0 _⟩, Below.setRowG HB.out (Nat.le_refl _) _⟩
  have CT_0 := Lib.hid (fun w h => take12_any A b c 0 1 w (by decide) (by decide) (by omega) (by omega) h)
  have CT_1 := Lib.hid (fun w h => take12_any A b c 1 1 w (by decide) (by decide) (by omega) (by omega) h)
  have CT_2 := Lib.hid (fun w h => take12_any A b c 2 8 w (by decide) (by decide) (by omega) (by omega) h)
  have CT_10 := Lib.hid (fun w h => take12_any A b c 10 8 w (by decide) (by decide) (by omega) (by omega) h)
  have CT_18 := Lib.hid (fun w h => take12_any A b c 18 4 w (by decide) (by decide) (by omega) (by omega) h)
  have CT_22 := Lib.hid (fun w h => take12_any A b c 22 8 w (by decide) (by decide) (by omega) (by omega) h)
  have HR := Lib.hid (show ∀ p : Prop, (RightE (envOf b) → readE b = (envOf b, 0)) ∧ (¬ RightE (envOf b) → readE b = (ev0, 2)) from fun _ => ⟨fun h => by unfold readE; rw [if_neg h1, if_neg h2, if_pos h], fun h => by unfold readE; rw [if_neg h1, if_neg h2, if_neg h]⟩)
  obtain ⟨ab, ao, hA, hab, hcell⟩ := hk.2.2 (by omega)
  subst hA
  have hc1 : b.length ≤ c := hk.1
  have hc2 : c ≤ 9223372036854775807 := hk.2.1
  rw [← hn] at h1 h2 hl hc1 ⊢
  simp only [← hn] at CT_0 CT_1 CT_2 CT_10 CT_18 CT_22
  obtain ⟨m, hm⟩ : ∃ m, m = n - 16 := ⟨_, rfl⟩
  have hnm : (n : Int) - 16 = (m : Int) := by omega
  have m1 : (30 : Int) ≤ (m : Int) := by omega
  have m2 : (m : Int) ≤ (n : Int) := by omega
  have m3 : (m : Int) ≤ (c : Int) := by omega
  have m4 : (n : Int) ≤ (c : Int) := by omega
  have m5 : (0 : Int) ≤ (m : Int) := by omega
  have h30 : ¬ c = 30 := by omega
  have hcm : ¬ c = m := by omega
  have HM := Lib.hid hm
  have HLB := Lib.hid (show (envOf b).body.length = m - 30 from by show ((b.drop 30).take (b.length - 46)).length = _; rw [List.length_take, List.length_drop]; omega)
  have HLT := Lib.hid (show (envOf b).tag.length = n - m from by show (b.drop (b.length - 16)).length = _; rw [List.length_drop]; omega)
  clear hn hk hab hcell hm
  go_enter Try.func21, Try.ntmps21
  go_upto_region 1 with (fail)
  rw [← HV.out]
  clear HV
  go_upto_region 6 with (fail)
  have LEJ := Lib.hid (Nat.le_refl W.heap.size)
  go_cut [5] (fun t5 wx => ∃ g, t5 = .pointer (some ⟨g, 0, none⟩) ∧ Bx wx g 25 (envC ⟨(some ⟨ab, ao + 30, none⟩, c - 30), (some ⟨ab, ao + m, none⟩, c - m)⟩ (envOf b)) ∧ BxE wx W.heap.size we0 ev0 ∧ Below W.heap.size W wx ∧ KeyE wx (some ⟨ab, ao, none⟩, c) b ∧ W.heap.size ≤ g ∧ W.heap.size ≠ g)
  case first =>
    have BB0 := Lib.hid (HB.out.drew)
    have KEEP := Lib.hid (fun w' (hW : Below W.heap.size W w') => (show Below W.heap.size W w' from hW))
    have HJ_0 := Lib.hid (Bx.drew J.out)
    have RB_0 := Lib.hid (RB.out.go ((Below.refl V.heap.size V).drew))
    refine wp_region_noPanic ?_
    refine wp_region_held_drew (S := fun w' => Below W.heap.size W w') (by kernel_rfl) (KEEP.out _ BB0.out) (fun hHeld => ?_)
    obtain ⟨wz0, hwz⟩ : ∃ x, x = V.drew := ⟨_, rfl⟩
    rw [← hwz] at BB0 hHeld HJ_0 RB_0 ⊢
    clear hwz
    refine wpAnyH_take (i := 0) (oi := ?_) (v := ?_) ?_ (by kernel_rfl) (by decide +kernel) (by decide +kernel) (fun _ _ _ h => h) ?_ (by assumption) ?_
    rotate_left 2
    focus (simp only [List.getElem?_toArray, List.getElem?_cons_zero] <;> rfl)
    · refine Or.inl ⟨by rfl, ?_⟩
      intro w hSw
      (try dsimp only at hSw)
      go_simp <;> with_reducible rfl
    (try simp only [Act.put, List.setIfInBounds_toArray, List.set_cons_zero, List.set_cons_succ])
    refine wpAnyH_take (i := 2) (oi := ?_) (v := ?_) ?_ (by kernel_rfl) (by decide +kernel) (by decide +kernel) (fun _ _ _ h => h) ?_ (by assumption) ?_
    rotate_left 2
    focus (simp only [List.getElem?_toArray, List.getElem?_cons_succ, List.getElem?_cons_zero] <;> rfl)
    · refine Or.inl ⟨by rfl, ?_⟩
      intro w hSw
      (try dsimp only at hSw)
      go_simp <;> with_reducible rfl
    (try simp only [Act.put, List.setIfInBounds_toArray, List.set_cons_zero, List.set_cons_succ])
    refine wpAnyH_take (i := 4) (oi := ?_) (v := ?_) ?_ (by kernel_rfl) (by decide +kernel) (by decide +kernel) (fun _ _ _ h => h) ?_ (by assumption) ?_
    rotate_left 2
    focus (simp only [List.getElem?_toArray, List.getElem?_cons_succ, List.getElem?_cons_zero] <;> rfl)
    · refine Or.inl ⟨by rfl, ?_⟩
      intro w hSw
      (try dsimp only at hSw)
      go_simp <;> with_reducible rfl
    (try simp only [Act.put, List.setIfInBounds_toArray, List.set_cons_zero, List.set_cons_succ])
    refine wpAnyH_take (i := 6) (oi := ?_) (v := ?_) ?_ (by kernel_rfl) (by decide +kernel) (by decide +kernel) (fun _ _ _ h => h) ?_ (by assumption) ?_
    rotate_left 2
    focus (simp only [List.getElem?_toArray, List.getElem?_cons_succ, List.getElem?_cons_zero] <;> rfl)
    · refine Or.inl ⟨by rfl, ?_⟩
      intro w hSw
      (try dsimp only at hSw)
      go_simp <;> with_reducible rfl
    (try simp only [Act.put, List.setIfInBounds_toArray, List.set_cons_zero, List.set_cons_succ])
    refine wpAnyH_take (i := 9) (oi := ?_) (v := ?_) ?_ (by kernel_rfl) (by decide +kernel) (by decide +kernel) (fun _ _ _ h => h) ?_ (by assumption) ?_
    rotate_left 2
    focus (simp only [List.getElem?_toArray, List.getElem?_cons_succ, List.getElem?_cons_zero] <;> rfl)
    · refine Or.inl ⟨by rfl, ?_⟩
      intro w hSw
      (try dsimp only at hSw)
      go_simp <;> with_reducible rfl
    (try simp only [Act.put, List.setIfInBounds_toArray, List.set_cons_zero, List.set_cons_succ])
    refine wpAnyH_take (i := 11) (oi := ?_) (v := ?_) ?_ (by kernel_rfl) (by decide +kernel) (by decide +kernel) (fun _ _ _ h => h) ?_ (by assumption) ?_
    rotate_left 2
    focus (simp only [List.getElem?_toArray, List.getElem?_cons_succ, List.getElem?_cons_zero] <;> rfl)
    · refine Or.inl ⟨by rfl, ?_⟩
      intro w hSw
      (try dsimp only at hSw)
      go_simp <;> with_reducible rfl
    (try simp only [Act.put, List.setIfInBounds_toArray, List.set_cons_zero, List.set_cons_succ])
    refine wpAnyH_take (i := 13) (oi := ?_) (v := ?_) ?_ (by kernel_rfl) (by decide +kernel) (by decide +kernel) (fun _ _ _ h => h) ?_ (by assumption) ?_
    rotate_left 2
    focus (simp only [List.getElem?_toArray, List.getElem?_cons_succ, List.getElem?_cons_zero] <;> rfl)
    · refine Or.inl ⟨by rfl, ?_⟩
      intro w hSw
      (try dsimp only at hSw)
      go_simp <;> with_reducible rfl
    (try simp only [Act.put, List.setIfInBounds_toArray, List.set_cons_zero, List.set_cons_succ])
    refine wpAnyH_take (i := 14) (oi := ?_) (v := ?_) ?_ (by kernel_rfl) (by decide +kernel) (by decide +kernel) (fun _ _ _ h => h) ?_ (by assumption) ?_
    rotate_left 2
    focus (simp only [List.getElem?_toArray, List.getElem?_cons_succ, List.getElem?_cons_zero] <;> rfl)
    · refine Or.inl ⟨by rfl, ?_⟩
      intro w hSw
      (try dsimp only at hSw)
      go_simp <;> with_reducible rfl
    (try simp only [Act.put, List.setIfInBounds_toArray, List.set_cons_zero, List.set_cons_succ])
    refine wpAnyH_take (i := 16) (oi := ?_) (v := ?_) ?_ (by kernel_rfl) (by decide +kernel) (by decide +kernel) (fun _ _ _ h => h) ?_ (by assumption) ?_
    rotate_left 2
    focus (simp only [List.getElem?_toArray, List.getElem?_cons_succ, List.getElem?_cons_zero] <;> rfl)
    · refine Or.inl ⟨by rfl, ?_⟩
      intro w hSw
      (try dsimp only at hSw)
      go_simp <;> with_reducible rfl
    (try simp only [Act.put, List.setIfInBounds_toArray, List.set_cons_zero, List.set_cons_succ])
    refine wpAnyH_take (i := 17) (oi := ?_) (v := ?_) ?_ (by kernel_rfl) (by decide +kernel) (by decide +kernel) (fun _ _ _ h => h) ?_ (by assumption) ?_
    rotate_left 2
    focus (simp only [List.getElem?_toArray, List.getElem?_cons_succ, List.getElem?_cons_zero] <;> rfl)
    · refine Or.inl ⟨by rfl, ?_⟩
      intro w hSw
      (try dsimp only at hSw)
      go_simp <;> with_reducible rfl
    (try simp only [Act.put, List.setIfInBounds_toArray, List.set_cons_zero, List.set_cons_succ])
    refine wpAnyH_take (i := 15) (oi := ?_) (v := ?_) ?_ (by kernel_rfl) (by decide +kernel) (by decide +kernel) (fun _ _ _ h => h) ?_ (by assumption) ?_
    rotate_left 2
    focus (simp only [List.getElem?_toArray, List.getElem?_cons_succ, List.getElem?_cons_zero] <;> rfl)
    · refine Or.inl ⟨by rfl, ?_⟩
      intro w hSw
      (try dsimp only at hSw)
      go_simp <;> with_reducible rfl
    (try simp only [Act.put, List.setIfInBounds_toArray, List.set_cons_zero, List.set_cons_succ])
    refine wpAnyH_take (i := 18) (oi := ?_) (v := ?_) ?_ (by kernel_rfl) (by decide +kernel) (by decide +kernel) (fun _ _ _ h => h) ?_ (by assumption) ?_
    rotate_left 2
    focus (simp only [List.getElem?_toArray, List.getElem?_cons_succ, List.getElem?_cons_zero] <;> rfl)
    · refine Or.inl ⟨by rfl, ?_⟩
      intro w hSw
      (try dsimp only at hSw)
      go_simp <;> with_reducible rfl
    (try simp only [Act.put, List.setIfInBounds_toArray, List.set_cons_zero, List.set_cons_succ])
    refine wpAnyH_ready (rs := [1, 20]) (by decide +kernel) (by simp) ?_
    refine AllReadyH.cons (o := ?_) ?_ (fun K hK => ?_) ?_
    rotate_left 1
    focus (simp only [List.getElem?_toArray, List.getElem?_cons_succ, List.getElem?_cons_zero] <;> rfl)
    · (try rw [if_pos (by rfl)])
      go_simp
      go_at_call 34
      refine (CT_0.out _ RB_0.out).mono ?_
      rintro e wz1 ⟨rfl, hw⟩
      obtain rfl := hw
      refine hK.out _ _ (KEEP.out _ BB0.out) (fun hHeld => ?_)
      clear hK K
      (try simp only [Act.put, List.setIfInBounds_toArray, List.set_cons_zero, List.set_cons_succ])
      refine wpAnyH_ready (rs := [3, 20]) (by decide +kernel) (by simp) ?_
      refine AllReadyH.cons (o := ?_) ?_ (fun K hK => ?_) ?_
      rotate_left 1
      focus (simp only [List.getElem?_toArray, List.getElem?_cons_succ, List.getElem?_cons_zero] <;> rfl)
      · (try rw [if_pos (by rfl)])
        go_simp
        go_at_call 34
        refine (CT_1.out _ RB_0.out).mono ?_
        rintro e wz2 ⟨rfl, hw⟩
        obtain rfl := hw
        refine hK.out _ _ (KEEP.out _ BB0.out) (fun hHeld => ?_)
        clear hK K
        (try simp only [Act.put, List.setIfInBounds_toArray, List.set_cons_zero, List.set_cons_succ])
        refine wpAnyH_ready (rs := [5, 20]) (by decide +kernel) (by simp) ?_
        refine AllReadyH.cons (o := ?_) ?_ (fun K hK => ?_) ?_
        rotate_left 1
        focus (simp only [List.getElem?_toArray, List.getElem?_cons_succ, List.getElem?_cons_zero] <;> rfl)
        · (try rw [if_pos (by rfl)])
          go_simp
          go_at_call 34
          refine (CT_2.out _ RB_0.out).mono ?_
          rintro e wz3 ⟨rfl, hw⟩
          obtain rfl := hw
          refine hK.out _ _ (KEEP.out _ BB0.out) (fun hHeld => ?_)
          clear hK K
          (try simp only [Act.put, List.setIfInBounds_toArray, List.set_cons_zero, List.set_cons_succ])
          refine wpAnyH_ready (rs := [7, 20]) (by decide +kernel) (by simp) ?_
          refine AllReadyH.cons (o := ?_) ?_ (fun K hK => ?_) ?_
          rotate_left 1
          focus (simp only [List.getElem?_toArray, List.getElem?_cons_succ, List.getElem?_cons_zero] <;> rfl)
          · (try rw [if_pos (by rfl)])
            go_simp
            go_at_call 34
            refine (CT_10.out _ RB_0.out).mono ?_
            rintro e wz4 ⟨rfl, hw⟩
            obtain rfl := hw
            refine hK.out _ _ (KEEP.out _ BB0.out) (fun hHeld => ?_)
            clear hK K
            (try simp only [Act.put, List.setIfInBounds_toArray, List.set_cons_zero, List.set_cons_succ])
            refine wpAnyH_take (i := 8) (oi := ?_) (v := ?_) ?_ (by kernel_rfl) (by decide +kernel) (by decide +kernel) (fun _ _ _ h => h) ?_ (by assumption) ?_
            rotate_left 2
            focus (simp only [List.getElem?_toArray, List.getElem?_cons_succ, List.getElem?_cons_zero] <;> rfl)
            · refine Or.inl ⟨by rfl, ?_⟩
              intro w hSw
              (try dsimp only at hSw)
              go_simp <;> with_reducible rfl
            (try simp only [Act.put, List.setIfInBounds_toArray, List.set_cons_zero, List.set_cons_succ])
            refine wpAnyH_ready (rs := [10, 20]) (by decide +kernel) (by simp) ?_
            refine AllReadyH.cons (o := ?_) ?_ (fun K hK => ?_) ?_
            rotate_left 1
            focus (simp only [List.getElem?_toArray, List.getElem?_cons_succ, List.getElem?_cons_zero] <;> rfl)
            · (try rw [if_pos (by rfl)])
              go_simp
              go_at_call 34
              refine (CT_18.out _ RB_0.out).mono ?_
              rintro e wz5 ⟨rfl, hw⟩
              obtain rfl := hw
              refine hK.out _ _ (KEEP.out _ BB0.out) (fun hHeld => ?_)
              clear hK K
              (try simp only [Act.put, List.setIfInBounds_toArray, List.set_cons_zero, List.set_cons_succ])
              refine wpAnyH_ready (rs := [12, 20]) (by decide +kernel) (by simp) ?_
              refine AllReadyH.cons (o := ?_) ?_ (fun K hK => ?_) ?_
              rotate_left 1
              focus (simp only [List.getElem?_toArray, List.getElem?_cons_succ, List.getElem?_cons_zero] <;> rfl)
              · (try rw [if_pos (by rfl)])
                go_simp
                go_at_call 34
                refine (CT_22.out _ RB_0.out).mono ?_
                rintro e wz6 ⟨rfl, hw⟩
                obtain rfl := hw
                refine hK.out _ _ (KEEP.out _ BB0.out) (fun hHeld => ?_)
                clear hK K
                (try simp only [Act.put, List.setIfInBounds_toArray, List.set_cons_zero, List.set_cons_succ])
                refine wpAnyH_take (i := 19) (oi := ?_) (v := ?_) ?_ (by kernel_rfl) (by decide +kernel) (by decide +kernel) (fun _ _ _ h => h) ?_ (by assumption) ?_
                rotate_left 2
                focus (simp only [List.getElem?_toArray, List.getElem?_cons_succ, List.getElem?_cons_zero] <;> rfl)
                · refine Or.inl ⟨by rfl, ?_⟩
                  intro w hSw
                  (try dsimp only at hSw)
                  go_simp <;> with_reducible rfl
                (try simp only [Act.put, List.setIfInBounds_toArray, List.set_cons_zero, List.set_cons_succ])
                refine wpAnyH_ready (rs := [20]) (by decide +kernel) (by simp) ?_
                refine AllReadyH.cons (o := ?_) ?_ (fun K hK => ?_) AllReadyH.nil
                rotate_left 1
                focus (simp only [List.getElem?_toArray, List.getElem?_cons_succ, List.getElem?_cons_zero] <;> rfl)
                go_simp
                obtain ⟨wz7, hwz⟩ : ∃ x, x = wz0.alloc (.cells #[.int .i64 0, .int .i64 0, .int .i64 0, .int .i64 0, .int .i64 0, .int .i64 0, .slice none 0 0, .slice none 0 0] 25) := ⟨_, rfl⟩
                have hb : Below wz0.heap.size wz0 wz7 := by rw [hwz]; exact (Below.refl wz0.heap.size wz0).alloc (Nat.le_refl _) _
                have hx : Bx wz7 wz0.heap.size 25 (envC we0 ev0) := by rw [hwz]; exact Bx.new _ _ _
                have BB7 := Lib.hid (belG BB0.out hb BB0.out.size)
                rw [← hwz]
                obtain ⟨ga7, hga⟩ : ∃ g, g = wz0.heap.size := ⟨_, rfl⟩
                rw [← hga] at hx
                (try rw [← hga])
                have HN_7 := Lib.hid hx
                have LEN := Lib.hid (show W.heap.size ≤ ga7 from by rw [hga]; exact BB0.out.size)
                have NEJN := Lib.hid (show W.heap.size ≠ ga7 from by have h1 := Bx.lt HJ_0.out; rw [hga]; omega)
                have NENJ := Lib.hid (NEJN.out.symm)
                have HJ_7 := Lib.hid (Bx.go HJ_0.out hb)
                have RB_7 := Lib.hid (RB_0.out.go hb)
                clear hb hx hwz hga
                refine hK.out _ _ (KEEP.out _ BB7.out) (fun hHeld => ?_)
                clear hK K
                (try simp only [Act.put, List.setIfInBounds_toArray, List.set_cons_zero, List.set_cons_succ])
                refine wpAnyH_ready (rs := [21]) (by decide +kernel) (by simp) ?_
                refine AllReadyH.cons (o := ?_) ?_ (fun K hK => ?_) AllReadyH.nil
                rotate_left 1
                focus (simp only [List.getElem?_toArray, List.getElem?_cons_succ, List.getElem?_cons_zero] <;> rfl)
                rw [if_pos (by rfl)]
                refine wp_storeX (.tmp 5) (.tmp 37) ga7 (envC ⟨(some ⟨ab, ao + 30, none⟩, c - 30), (some ⟨ab, ao + m, none⟩, c - m)⟩ (envOf b)) _ tyEnv rfl (envC_one _ _) HN_7.out rfl rfl rfl (by simp only [envC, HLB.out, HLT.out]; rfl) ?_
                (try simp only [Act.put])
                obtain ⟨wz8, hwz⟩ : ∃ x, x = wz7.setRow ga7 (envC ⟨(some ⟨ab, ao + 30, none⟩, c - 30), (some ⟨ab, ao + m, none⟩, c - m)⟩ (envOf b)) := ⟨_, rfl⟩
                have BB8 := Lib.hid (show Below W.heap.size W wz8 from by rw [hwz]; exact Below.setRowG BB7.out LEN.out _)
                have hq := Bx.setRowOther HJ_7.out NEJN.out (envC ⟨(some ⟨ab, ao + 30, none⟩, c - 30), (some ⟨ab, ao + m, none⟩, c - m)⟩ (envOf b))
                rw [← hwz] at hq
                have HJ_8 := Lib.hid hq
                clear hq
                have HN_8 := Lib.hid (show Bx wz8 ga7 25 (envC ⟨(some ⟨ab, ao + 30, none⟩, c - 30), (some ⟨ab, ao + m, none⟩, c - m)⟩ (envOf b)) from by rw [hwz]; exact Bx.setRow HN_7.out _)
                have hq := RB_7.out.setRow (C' := (envC ⟨(some ⟨ab, ao + 30, none⟩, c - 30), (some ⟨ab, ao + m, none⟩, c - m)⟩ (envOf b))) HN_7.out (no8_env _ _)
                rw [← hwz] at hq
                have RB_8 := Lib.hid hq
                clear hq
                rw [← hwz]
                clear hwz
                refine hK.out _ _ (KEEP.out _ BB8.out) (fun hHeld => ?_)
                clear hK K
                (try dsimp only)
                refine wpAnyH_done (by decide +kernel) ?_ _
                refine NoPanic.normal ?_
                clear KEEP
                go_wp2_with fail
                go_meet
                case rel => exact ⟨ga7, rfl, HN_8.out, HJ_8.out, BB8.out, RB_8.out, LEN.out, NEJN.out⟩
              refine AllReadyH.cons (o := ?_) ?_ (fun K hK => ?_) AllReadyH.nil
              rotate_left 1
              focus (simp only [List.getElem?_toArray, List.getElem?_cons_succ, List.getElem?_cons_zero] <;> rfl)
              go_simp
              obtain ⟨wz9, hwz⟩ : ∃ x, x = wz0.alloc (.cells #[.int .i64 0, .int .i64 0, .int .i64 0, .int .i64 0, .int .i64 0, .int .i64 0, .slice none 0 0, .slice none 0 0] 25) := ⟨_, rfl⟩
              have hb : Below wz0.heap.size wz0 wz9 := by rw [hwz]; exact (Below.refl wz0.heap.size wz0).alloc (Nat.le_refl _) _
              have hx : Bx wz9 wz0.heap.size 25 (envC we0 ev0) := by rw [hwz]; exact Bx.new _ _ _
              have BB9 := Lib.hid (belG BB0.out hb BB0.out.size)
              rw [← hwz]
              obtain ⟨ga9, hga⟩ : ∃ g, g = wz0.heap.size := ⟨_, rfl⟩
              rw [← hga] at hx
              (try rw [← hga])
              have HN_9 := Lib.hid hx
              have LEN := Lib.hid (show W.heap.size ≤ ga9 from by rw [hga]; exact BB0.out.size)
              have NEJN := Lib.hid (show W.heap.size ≠ ga9 from by have h1 := Bx.lt HJ_0.out; rw [hga]; omega)
              have NENJ := Lib.hid (NEJN.out.symm)
              have HJ_9 := Lib.hid (Bx.go HJ_0.out hb)
              have RB_9 := Lib.hid (RB_0.out.go hb)
              clear hb hx hwz hga
              refine hK.out _ _ (KEEP.out _ BB9.out) (fun hHeld => ?_)
              clear hK K
              (try simp only [Act.put, List.setIfInBounds_toArray, List.set_cons_zero, List.set_cons_succ])
              refine wpAnyH_ready (rs := [12]) (by decide +kernel) (by simp) ?_
              refine AllReadyH.cons (o := ?_) ?_ (fun K hK => ?_) AllReadyH.nil
              rotate_left 1
              focus (simp only [List.getElem?_toArray, List.getElem?_cons_succ, List.getElem?_cons_zero] <;> rfl)
              (try rw [if_pos (by rfl)])
              go_simp
              go_at_call 34
              refine (CT_22.out _ RB_9.out).mono ?_
              rintro e wz10 ⟨rfl, hw⟩
              obtain rfl := hw
              refine hK.out _ _ (KEEP.out _ BB9.out) (fun hHeld => ?_)
              clear hK K
              (try simp only [Act.put, List.setIfInBounds_toArray, List.set_cons_zero, List.set_cons_succ])
              refine wpAnyH_take (i := 19) (oi := ?_) (v := ?_) ?_ (by kernel_rfl) (by decide +kernel) (by decide +kernel) (fun _ _ _ h => h) ?_ (by assumption) ?_
              rotate_left 2
              focus (simp only [List.getElem?_toArray, List.getElem?_cons_succ, List.getElem?_cons_zero] <;> rfl)
              · refine Or.inl ⟨by rfl, ?_⟩
                intro w hSw
                (try dsimp only at hSw)
                go_simp <;> with_reducible rfl
              (try simp only [Act.put, List.setIfInBounds_toArray, List.set_cons_zero, List.set_cons_succ])
              refine wpAnyH_ready (rs := [21]) (by decide +kernel) (by simp) ?_
              refine AllReadyH.cons (o := ?_) ?_ (fun K hK => ?_) AllReadyH.nil
              rotate_left 1
              focus (simp only [List.getElem?_toArray, List.getElem?_cons_succ, List.getElem?_cons_zero] <;> rfl)
              rw [if_pos (by rfl)]
              refine wp_storeX (.tmp 5) (.tmp 37) ga9 (envC ⟨(some ⟨ab, ao + 30, none⟩, c - 30), (some ⟨ab, ao + m, none⟩, c - m)⟩ (envOf b)) _ tyEnv rfl (envC_one _ _) HN_9.out rfl rfl rfl (by simp only [envC, HLB.out, HLT.out]; rfl) ?_
              (try simp only [Act.put])
              obtain ⟨wz11, hwz⟩ : ∃ x, x = wz9.setRow ga9 (envC ⟨(some ⟨ab, ao + 30, none⟩, c - 30), (some ⟨ab, ao + m, none⟩, c - m)⟩ (envOf b)) := ⟨_, rfl⟩
              have BB11 := Lib.hid (show Below W.heap.size W wz11 from by rw [hwz]; exact Below.setRowG BB9.out LEN.out _)
              have hq := Bx.setRowOther HJ_9.out NEJN.out (envC ⟨(some ⟨ab, ao + 30, none⟩, c - 30), (some ⟨ab, ao + m, none⟩, c - m)⟩ (envOf b))
              rw [← hwz] at hq
              have HJ_11 := Lib.hid hq
              clear hq
              have HN_11 := Lib.hid (show Bx wz11 ga9 25 (envC ⟨(some ⟨ab, ao + 30, none⟩, c - 30), (some ⟨ab, ao + m, none⟩, c - m)⟩ (envOf b)) from by rw [hwz]; exact Bx.setRow HN_9.out _)
              have hq := RB_9.out.setRow (C' := (envC ⟨(some ⟨ab, ao + 30, none⟩, c - 30), (some ⟨ab, ao + m, none⟩, c - m)⟩ (envOf b))) HN_9.out (no8_env _ _)
              rw [← hwz] at hq
              have RB_11 := Lib.hid hq
              clear hq
              rw [← hwz]
              clear hwz
              refine hK.out _ _ (KEEP.out _ BB11.out) (fun hHeld => ?_)
              clear hK K
              (try dsimp only)
              refine wpAnyH_done (by decide +kernel) ?_ _
              refine NoPanic.normal ?_
              clear KEEP
              go_wp2_with fail
              go_meet
              case rel => exact ⟨ga9, rfl, HN_11.out, HJ_11.out, BB11.out, RB_11.out, LEN.out, NEJN.out⟩
            refine AllReadyH.cons (o := ?_) ?_ (fun K hK => ?_) AllReadyH.nil
            rotate_left 1
            focus (simp only [List.getElem?_toArray, List.getElem?_cons_succ, List.getElem?_cons_zero] <;> rfl)
            go_simp
            obtain ⟨wz12, hwz⟩ : ∃ x, x = wz0.alloc (.cells #[.int .i64 0, .int .i64 0, .int .i64 0, .int .i64 0, .int .i64 0, .int .i64 0, .slice none 0 0, .slice none 0 0] 25) := ⟨_, rfl⟩
            have hb : Below wz0.heap.size wz0 wz12 := by rw [hwz]; exact (Below.refl wz0.heap.size wz0).alloc (Nat.le_refl _) _
            have hx : Bx wz12 wz0.heap.size 25 (envC we0 ev0) := by rw [hwz]; exact Bx.new _ _ _
            have BB12 := Lib.hid (belG BB0.out hb BB0.out.size)
            rw [← hwz]
            obtain ⟨ga12, hga⟩ : ∃ g, g = wz0.heap.size := ⟨_, rfl⟩
            rw [← hga] at hx
            (try rw [← hga])
            have HN_12 := Lib.hid hx
            have LEN := Lib.hid (show W.heap.size ≤ ga12 from by rw [hga]; exact BB0.out.size)
            have NEJN := Lib.hid (show W.heap.size ≠ ga12 from by have h1 := Bx.lt HJ_0.out; rw [hga]; omega)
            have NENJ := Lib.hid (NEJN.out.symm)
            have HJ_12 := Lib.hid (Bx.go HJ_0.out hb)
            have RB_12 := Lib.hid (RB_0.out.go hb)
            clear hb hx hwz hga
            refine hK.out _ _ (KEEP.out _ BB12.out) (fun hHeld => ?_)
            clear hK K
            (try simp only [Act.put, List.setIfInBounds_toArray, List.set_cons_zero, List.set_cons_succ])
            refine wpAnyH_ready (rs := [10]) (by decide +kernel) (by simp) ?_
            refine AllReadyH.cons (o := ?_) ?_ (fun K hK => ?_) AllReadyH.nil
            rotate_left 1
            focus (simp only [List.getElem?_toArray, List.getElem?_cons_succ, List.getElem?_cons_zero] <;> rfl)
            (try rw [if_pos (by rfl)])
            go_simp
            go_at_call 34
            refine (CT_18.out _ RB_12.out).mono ?_
            rintro e wz13 ⟨rfl, hw⟩
            obtain rfl := hw
            refine hK.out _ _ (KEEP.out _ BB12.out) (fun hHeld => ?_)
            clear hK K
            (try simp only [Act.put, List.setIfInBounds_toArray, List.set_cons_zero, List.set_cons_succ])
            refine wpAnyH_ready (rs := [12]) (by decide +kernel) (by simp) ?_
            refine AllReadyH.cons (o := ?_) ?_ (fun K hK => ?_) AllReadyH.nil
            rotate_left 1
            focus (simp only [List.getElem?_toArray, List.getElem?_cons_succ, List.getElem?_cons_zero] <;> rfl)
            (try rw [if_pos (by rfl)])
            go_simp
            go_at_call 34
            refine (CT_22.out _ RB_12.out).mono ?_
            rintro e wz14 ⟨rfl, hw⟩
            obtain rfl := hw
            refine hK.out _ _ (KEEP.out _ BB12.out) (fun hHeld => ?_)
            clear hK K
            (try simp only [Act.put, List.setIfInBounds_toArray, List.set_cons_zero, List.set_cons_succ])
            refine wpAnyH_take (i := 19) (oi := ?_) (v := ?_) ?_ (by kernel_rfl) (by decide +kernel) (by decide +kernel) (fun _ _ _ h => h) ?_ (by assumption) ?_
            rotate_left 2
            focus (simp only [List.getElem?_toArray, List.getElem?_cons_succ, List.getElem?_cons_zero] <;> rfl)
            · refine Or.inl ⟨by rfl, ?_⟩
              intro w hSw
              (try dsimp only at hSw)
              go_simp <;> with_reducible rfl
            (try simp only [Act.put, List.setIfInBounds_toArray, List.set_cons_zero, List.set_cons_succ])
            refine wpAnyH_ready (rs := [21]) (by decide +kernel) (by simp) ?_
            refine AllReadyH.cons (o := ?_) ?_ (fun K hK => ?_) AllReadyH.nil
            rotate_left 1
            focus (simp only [List.getElem?_toArray, List.getElem?_cons_succ, List.getElem?_cons_zero] <;> rfl)
            rw [if_pos (by rfl)]
            refine wp_storeX (.tmp 5) (.tmp 37) ga12 (envC ⟨(some ⟨ab, ao + 30, none⟩, c - 30), (some ⟨ab, ao + m, none⟩, c - m)⟩ (envOf b)) _ tyEnv rfl (envC_one _ _) HN_12.out rfl rfl rfl (by simp only [envC, HLB.out, HLT.out]; rfl) ?_
            (try simp only [Act.put])
            obtain ⟨wz15, hwz⟩ : ∃ x, x = wz12.setRow ga12 (envC ⟨(some ⟨ab, ao + 30, none⟩, c - 30), (some ⟨ab, ao + m, none⟩, c - m)⟩ (envOf b)) := ⟨_, rfl⟩
            have BB15 := Lib.hid (show Below W.heap.size W wz15 from by rw [hwz]; exact Below.setRowG BB12.out LEN.out _)
            have hq := Bx.setRowOther HJ_12.out NEJN.out (envC ⟨(some ⟨ab, ao + 30, none⟩, c - 30), (some ⟨ab, ao + m, none⟩, c - m)⟩ (envOf b))
            rw [← hwz] at hq
            have HJ_15 := Lib.hid hq
            clear hq
            have HN_15 := Lib.hid (show Bx wz15 ga12 25 (envC ⟨(some ⟨ab, ao + 30, none⟩, c - 30), (some ⟨ab, ao + m, none⟩, c - m)⟩ (envOf b)) from by rw [hwz]; exact Bx.setRow HN_12.out _)
            have hq := RB_12.out.setRow (C' := (envC ⟨(some ⟨ab, ao + 30, none⟩, c - 30), (some ⟨ab, ao + m, none⟩, c - m)⟩ (envOf b))) HN_12.out (no8_env _ _)
            rw [← hwz] at hq
            have RB_15 := Lib.hid hq
            clear hq
            rw [← hwz]
            clear hwz
            refine hK.out _ _ (KEEP.out _ BB15.out) (fun hHeld => ?_)
            clear hK K
            (try dsimp only)
            refine wpAnyH_done (by decide +kernel) ?_ _
            refine NoPanic.normal ?_
            clear KEEP
            go_wp2_with fail
            go_meet
            case rel => exact ⟨ga12, rfl, HN_15.out, HJ_15.out, BB15.out, RB_15.out, LEN.out, NEJN.out⟩
          refine AllReadyH.cons (o := ?_) ?_ (fun K hK => ?_) AllReadyH.nil
          rotate_left 1
          focus (simp only [List.getElem?_toArray, List.getElem?_cons_succ, List.getElem?_cons_zero] <;> rfl)
          go_simp
          obtain ⟨wz16, hwz⟩ : ∃ x, x = wz0.alloc (.cells #[.int .i64 0, .int .i64 0, .int .i64 0, .int .i64 0, .int .i64 0, .int .i64 0, .slice none 0 0, .slice none 0 0] 25) := ⟨_, rfl⟩
          have hb : Below wz0.heap.size wz0 wz16 := by rw [hwz]; exact (Below.refl wz0.heap.size wz0).alloc (Nat.le_refl _) _
          have hx : Bx wz16 wz0.heap.size 25 (envC we0 ev0) := by rw [hwz]; exact Bx.new _ _ _
          have BB16 := Lib.hid (belG BB0.out hb BB0.out.size)
          rw [← hwz]
          obtain ⟨ga16, hga⟩ : ∃ g, g = wz0.heap.size := ⟨_, rfl⟩
          rw [← hga] at hx
          (try rw [← hga])
          have HN_16 := Lib.hid hx
          have LEN := Lib.hid (show W.heap.size ≤ ga16 from by rw [hga]; exact BB0.out.size)
          have NEJN := Lib.hid (show W.heap.size ≠ ga16 from by have h1 := Bx.lt HJ_0.out; rw [hga]; omega)
          have NENJ := Lib.hid (NEJN.out.symm)
          have HJ_16 := Lib.hid (Bx.go HJ_0.out hb)
          have RB_16 := Lib.hid (RB_0.out.go hb)
          clear hb hx hwz hga
          refine hK.out _ _ (KEEP.out _ BB16.out) (fun hHeld => ?_)
          clear hK K
          (try simp only [Act.put, List.setIfInBounds_toArray, List.set_cons_zero, List.set_cons_succ])
          refine wpAnyH_ready (rs := [7]) (by decide +kernel) (by simp) ?_
          refine AllReadyH.cons (o := ?_) ?_ (fun K hK => ?_) AllReadyH.nil
          rotate_left 1
          focus (simp only [List.getElem?_toArray, List.getElem?_cons_succ, List.getElem?_cons_zero] <;> rfl)
          (try rw [if_pos (by rfl)])
          go_simp
          go_at_call 34
          refine (CT_10.out _ RB_16.out).mono ?_
          rintro e wz17 ⟨rfl, hw⟩
          obtain rfl := hw
          refine hK.out _ _ (KEEP.out _ BB16.out) (fun hHeld => ?_)
          clear hK K
          (try simp only [Act.put, List.setIfInBounds_toArray, List.set_cons_zero, List.set_cons_succ])
          refine wpAnyH_take (i := 8) (oi := ?_) (v := ?_) ?_ (by kernel_rfl) (by decide +kernel) (by decide +kernel) (fun _ _ _ h => h) ?_ (by assumption) ?_
          rotate_left 2
          focus (simp only [List.getElem?_toArray, List.getElem?_cons_succ, List.getElem?_cons_zero] <;> rfl)
          · refine Or.inl ⟨by rfl, ?_⟩
            intro w hSw
            (try dsimp only at hSw)
            go_simp <;> with_reducible rfl
          (try simp only [Act.put, List.setIfInBounds_toArray, List.set_cons_zero, List.set_cons_succ])
          refine wpAnyH_ready (rs := [10]) (by decide +kernel) (by simp) ?_
          refine AllReadyH.cons (o := ?_) ?_ (fun K hK => ?_) AllReadyH.nil
          rotate_left 1
          focus (simp only [List.getElem?_toArray, List.getElem?_cons_succ, List.getElem?_cons_zero] <;> rfl)
          (try rw [if_pos (by rfl)])
          go_simp
          go_at_call 34
          refine (CT_18.out _ RB_16.out).mono ?_
          rintro e wz18 ⟨rfl, hw⟩
          obtain rfl := hw
          refine hK.out _ _ (KEEP.out _ BB16.out) (fun hHeld => ?_)
          clear hK K
          (try simp only [Act.put, List.setIfInBounds_toArray, List.set_cons_zero, List.set_cons_succ])
          refine wpAnyH_ready (rs := [12]) (by decide +kernel) (by simp) ?_
          refine AllReadyH.cons (o := ?_) ?_ (fun K hK => ?_) AllReadyH.nil
          rotate_left 1
          focus (simp only [List.getElem?_toArray, List.getElem?_cons_succ, List.getElem?_cons_zero] <;> rfl)
          (try rw [if_pos (by rfl)])
          go_simp
          go_at_call 34
          refine (CT_22.out _ RB_16.out).mono ?_
          rintro e wz19 ⟨rfl, hw⟩
          obtain rfl := hw
          refine hK.out _ _ (KEEP.out _ BB16.out) (fun hHeld => ?_)
          clear hK K
          (try simp only [Act.put, List.setIfInBounds_toArray, List.set_cons_zero, List.set_cons_succ])
          refine wpAnyH_take (i := 19) (oi := ?_) (v := ?_) ?_ (by kernel_rfl) (by decide +kernel) (by decide +kernel) (fun _ _ _ h => h) ?_ (by assumption) ?_
          rotate_left 2
          focus (simp only [List.getElem?_toArray, List.getElem?_cons_succ, List.getElem?_cons_zero] <;> rfl)
          · refine Or.inl ⟨by rfl, ?_⟩
            intro w hSw
            (try dsimp only at hSw)
            go_simp <;> with_reducible rfl
          (try simp only [Act.put, List.setIfInBounds_toArray, List.set_cons_zero, List.set_cons_succ])
          refine wpAnyH_ready (rs := [21]) (by decide +kernel) (by simp) ?_
          refine AllReadyH.cons (o := ?_) ?_ (fun K hK => ?_) AllReadyH.nil
          rotate_left 1
          focus (simp only [List.getElem?_toArray, List.getElem?_cons_succ, List.getElem?_cons_zero] <;> rfl)
          rw [if_pos (by rfl)]
          refine wp_storeX (.tmp 5) (.tmp 37) ga16 (envC ⟨(some ⟨ab, ao + 30, none⟩, c - 30), (some ⟨ab, ao + m, none⟩, c - m)⟩ (envOf b)) _ tyEnv rfl (envC_one _ _) HN_16.out rfl rfl rfl (by simp only [envC, HLB.out, HLT.out]; rfl) ?_
          (try simp only [Act.put])
          obtain ⟨wz20, hwz⟩ : ∃ x, x = wz16.setRow ga16 (envC ⟨(some ⟨ab, ao + 30, none⟩, c - 30), (some ⟨ab, ao + m, none⟩, c - m)⟩ (envOf b)) := ⟨_, rfl⟩
          have BB20 := Lib.hid (show Below W.heap.size W wz20 from by rw [hwz]; exact Below.setRowG BB16.out LEN.out _)
          have hq := Bx.setRowOther HJ_16.out NEJN.out (envC ⟨(some ⟨ab, ao + 30, none⟩, c - 30), (some ⟨ab, ao + m, none⟩, c - m)⟩ (envOf b))
          rw [← hwz] at hq
          have HJ_20 := Lib.hid hq
          clear hq
          have HN_20 := Lib.hid (show Bx wz20 ga16 25 (envC ⟨(some ⟨ab, ao + 30, none⟩, c - 30), (some ⟨ab, ao + m, none⟩, c - m)⟩ (envOf b)) from by rw [hwz]; exact Bx.setRow HN_16.out _)
          have hq := RB_16.out.setRow (C' := (envC ⟨(some ⟨ab, ao + 30, none⟩, c - 30), (some ⟨ab, ao + m, none⟩, c - m)⟩ (envOf b))) HN_16.out (no8_env _ _)
          rw [← hwz] at hq
          have RB_20 := Lib.hid hq
          clear hq
          rw [← hwz]
          clear hwz
          refine hK.out _ _ (KEEP.out _ BB20.out) (fun hHeld => ?_)
          clear hK K
          (try dsimp only)
          refine wpAnyH_done (by decide +kernel) ?_ _
          refine NoPanic.normal ?_
          clear KEEP
          go_wp2_with fail
          go_meet
          case rel => exact ⟨ga16, rfl, HN_20.out, HJ_20.out, BB20.out, RB_20.out, LEN.out, NEJN.out⟩
        refine AllReadyH.cons (o := ?_) ?_ (fun K hK => ?_) AllReadyH.nil
        rotate_left 1
        focus (simp only [List.getElem?_toArray, List.getElem?_cons_succ, List.getElem?_cons_zero] <;> rfl)
        go_simp
        obtain ⟨wz21, hwz⟩ : ∃ x, x = wz0.alloc (.cells #[.int .i64 0, .int .i64 0, .int .i64 0, .int .i64 0, .int .i64 0, .int .i64 0, .slice none 0 0, .slice none 0 0] 25) := ⟨_, rfl⟩
        have hb : Below wz0.heap.size wz0 wz21 := by rw [hwz]; exact (Below.refl wz0.heap.size wz0).alloc (Nat.le_refl _) _
        have hx : Bx wz21 wz0.heap.size 25 (envC we0 ev0) := by rw [hwz]; exact Bx.new _ _ _
        have BB21 := Lib.hid (belG BB0.out hb BB0.out.size)
        rw [← hwz]
        obtain ⟨ga21, hga⟩ : ∃ g, g = wz0.heap.size := ⟨_, rfl⟩
        rw [← hga] at hx
        (try rw [← hga])
        have HN_21 := Lib.hid hx
        have LEN := Lib.hid (show W.heap.size ≤ ga21 from by rw [hga]; exact BB0.out.size)
        have NEJN := Lib.hid (show W.heap.size ≠ ga21 from by have h1 := Bx.lt HJ_0.out; rw [hga]; omega)
        have NENJ := Lib.hid (NEJN.out.symm)
        have HJ_21 := Lib.hid (Bx.go HJ_0.out hb)
        have RB_21 := Lib.hid (RB_0.out.go hb)
        clear hb hx hwz hga
        refine hK.out _ _ (KEEP.out _ BB21.out) (fun hHeld => ?_)
        clear hK K
        (try simp only [Act.put, List.setIfInBounds_toArray, List.set_cons_zero, List.set_cons_succ])
        refine wpAnyH_ready (rs := [5]) (by decide +kernel) (by simp) ?_
        refine AllReadyH.cons (o := ?_) ?_ (fun K hK => ?_) AllReadyH.nil
        rotate_left 1
        focus (simp only [List.getElem?_toArray, List.getElem?_cons_succ, List.getElem?_cons_zero] <;> rfl)
        (try rw [if_pos (by rfl)])
        go_simp
        go_at_call 34
        refine (CT_2.out _ RB_21.out).mono ?_
        rintro e wz22 ⟨rfl, hw⟩
        obtain rfl := hw
        refine hK.out _ _ (KEEP.out _ BB21.out) (fun hHeld => ?_)
        clear hK K
        (try simp only [Act.put, List.setIfInBounds_toArray, List.set_cons_zero, List.set_cons_succ])
        refine wpAnyH_ready (rs := [7]) (by decide +kernel) (by simp) ?_
        refine AllReadyH.cons (o := ?_) ?_ (fun K hK => ?_) AllReadyH.nil
        rotate_left 1
        focus (simp only [List.getElem?_toArray, List.getElem?_cons_succ, List.getElem?_cons_zero] <;> rfl)
        (try rw [if_pos (by rfl)])
        go_simp
        go_at_call 34
        refine (CT_10.out _ RB_21.out).mono ?_
        rintro e wz23 ⟨rfl, hw⟩
        obtain rfl := hw
        refine hK.out _ _ (KEEP.out _ BB21.out) (fun hHeld => ?_)
        clear hK K
        (try simp only [Act.put, List.setIfInBounds_toArray, List.set_cons_zero, List.set_cons_succ])
        refine wpAnyH_take (i := 8) (oi := ?_) (v := ?_) ?_ (by kernel_rfl) (by decide +kernel) (by decide +kernel) (fun _ _ _ h => h) ?_ (by assumption) ?_
        rotate_left 2
        focus (simp only [List.getElem?_toArray, List.getElem?_cons_succ, List.getElem?_cons_zero] <;> rfl)
        · refine Or.inl ⟨by rfl, ?_⟩
          intro w hSw
          (try dsimp only at hSw)
          go_simp <;> with_reducible rfl
        (try simp only [Act.put, List.setIfInBounds_toArray, List.set_cons_zero, List.set_cons_succ])
        refine wpAnyH_ready (rs := [10]) (by decide +kernel) (by simp) ?_
        refine AllReadyH.cons (o := ?_) ?_ (fun K hK => ?_) AllReadyH.nil
        rotate_left 1
        focus (simp only [List.getElem?_toArray, List.getElem?_cons_succ, List.getElem?_cons_zero] <;> rfl)
        (try rw [if_pos (by rfl)])
        go_simp
        go_at_call 34
        refine (CT_18.out _ RB_21.out).mono ?_
        rintro e wz24 ⟨rfl, hw⟩
        obtain rfl := hw
        refine hK.out _ _ (KEEP.out _ BB21.out) (fun hHeld => ?_)
        clear hK K
        (try simp only [Act.put, List.setIfInBounds_toArray, List.set_cons_zero, List.set_cons_succ])
        refine wpAnyH_ready (rs := [12]) (by decide +kernel) (by simp) ?_
        refine AllReadyH.cons (o := ?_) ?_ (fun K hK => ?_) AllReadyH.nil
        rotate_left 1
        focus (simp only [List.getElem?_toArray, List.getElem?_cons_succ, List.getElem?_cons_zero] <;> rfl)
        (try rw [if_pos (by rfl)])
        go_simp
        go_at_call 34
        refine (CT_22.out _ RB_21.out).mono ?_
        rintro e wz25 ⟨rfl, hw⟩
        obtain rfl := hw
        refine hK.out _ _ (KEEP.out _ BB21.out) (fun hHeld => ?_)
        clear hK K
        (try simp only [Act.put, List.setIfInBounds_toArray, List.set_cons_zero, List.set_cons_succ])
        refine wpAnyH_take (i := 19) (oi := ?_) (v := ?_) ?_ (by kernel_rfl) (by decide +kernel) (by decide +kernel) (fun _ _ _ h => h) ?_ (by assumption) ?_
        rotate_left 2
        focus (simp only [List.getElem?_toArray, List.getElem?_cons_succ, List.getElem?_cons_zero] <;> rfl)
        · refine Or.inl ⟨by rfl, ?_⟩
          intro w hSw
          (try dsimp only at hSw)
          go_simp <;> with_reducible rfl
        (try simp only [Act.put, List.setIfInBounds_toArray, List.set_cons_zero, List.set_cons_succ])
        refine wpAnyH_ready (rs := [21]) (by decide +kernel) (by simp) ?_
        refine AllReadyH.cons (o := ?_) ?_ (fun K hK => ?_) AllReadyH.nil
        rotate_left 1
        focus (simp only [List.getElem?_toArray, List.getElem?_cons_succ, List.getElem?_cons_zero] <;> rfl)
        rw [if_pos (by rfl)]
        refine wp_storeX (.tmp 5) (.tmp 37) ga21 (envC ⟨(some ⟨ab, ao + 30, none⟩, c - 30), (some ⟨ab, ao + m, none⟩, c - m)⟩ (envOf b)) _ tyEnv rfl (envC_one _ _) HN_21.out rfl rfl rfl (by simp only [envC, HLB.out, HLT.out]; rfl) ?_
        (try simp only [Act.put])
        obtain ⟨wz26, hwz⟩ : ∃ x, x = wz21.setRow ga21 (envC ⟨(some ⟨ab, ao + 30, none⟩, c - 30), (some ⟨ab, ao + m, none⟩, c - m)⟩ (envOf b)) := ⟨_, rfl⟩
        have BB26 := Lib.hid (show Below W.heap.size W wz26 from by rw [hwz]; exact Below.setRowG BB21.out LEN.out _)
        have hq := Bx.setRowOther HJ_21.out NEJN.out (envC ⟨(some ⟨ab, ao + 30, none⟩, c - 30), (some ⟨ab, ao + m, none⟩, c - m)⟩ (envOf b))
        rw [← hwz] at hq
        have HJ_26 := Lib.hid hq
        clear hq
        have HN_26 := Lib.hid (show Bx wz26 ga21 25 (envC ⟨(some ⟨ab, ao + 30, none⟩, c - 30), (some ⟨ab, ao + m, none⟩, c - m)⟩ (envOf b)) from by rw [hwz]; exact Bx.setRow HN_21.out _)
        have hq := RB_21.out.setRow (C' := (envC ⟨(some ⟨ab, ao + 30, none⟩, c - 30), (some ⟨ab, ao + m, none⟩, c - m)⟩ (envOf b))) HN_21.out (no8_env _ _)
        rw [← hwz] at hq
        have RB_26 := Lib.hid hq
        clear hq
        rw [← hwz]
        clear hwz
        refine hK.out _ _ (KEEP.out _ BB26.out) (fun hHeld => ?_)
        clear hK K
        (try dsimp only)
        refine wpAnyH_done (by decide +kernel) ?_ _
        refine NoPanic.normal ?_
        clear KEEP
        go_wp2_with fail
        go_meet
        case rel => exact ⟨ga21, rfl, HN_26.out, HJ_26.out, BB26.out, RB_26.out, LEN.out, NEJN.out⟩
      refine AllReadyH.cons (o := ?_) ?_ (fun K hK => ?_) AllReadyH.nil
      rotate_left 1
      focus (simp only [List.getElem?_toArray, List.getElem?_cons_succ, List.getElem?_cons_zero] <;> rfl)
      go_simp
      obtain ⟨wz27, hwz⟩ : ∃ x, x = wz0.alloc (.cells #[.int .i64 0, .int .i64 0, .int .i64 0, .int .i64 0, .int .i64 0, .int .i64 0, .slice none 0 0, .slice none 0 0] 25) := ⟨_, rfl⟩
      have hb : Below wz0.heap.size wz0 wz27 := by rw [hwz]; exact (Below.refl wz0.heap.size wz0).alloc (Nat.le_refl _) _
      have hx : Bx wz27 wz0.heap.size 25 (envC we0 ev0) := by rw [hwz]; exact Bx.new _ _ _
      have BB27 := Lib.hid (belG BB0.out hb BB0.out.size)
      rw [← hwz]
      obtain ⟨ga27, hga⟩ : ∃ g, g = wz0.heap.size := ⟨_, rfl⟩
      rw [← hga] at hx
      (try rw [← hga])
      have HN_27 := Lib.hid hx
      have LEN := Lib.hid (show W.heap.size ≤ ga27 from by rw [hga]; exact BB0.out.size)
      have NEJN := Lib.hid (show W.heap.size ≠ ga27 from by have h1 := Bx.lt HJ_0.out; rw [hga]; omega)
      have NENJ := Lib.hid (NEJN.out.symm)
      have HJ_27 := Lib.hid (Bx.go HJ_0.out hb)
      have RB_27 := Lib.hid (RB_0.out.go hb)
      clear hb hx hwz hga
      refine hK.out _ _ (KEEP.out _ BB27.out) (fun hHeld => ?_)
      clear hK K
      (try simp only [Act.put, List.setIfInBounds_toArray, List.set_cons_zero, List.set_cons_succ])
      refine wpAnyH_ready (rs := [3]) (by decide +kernel) (by simp) ?_
      refine AllReadyH.cons (o := ?_) ?_ (fun K hK => ?_) AllReadyH.nil
      rotate_left 1
      focus (simp only [List.getElem?_toArray, List.getElem?_cons_succ, List.getElem?_cons_zero] <;> rfl)
      (try rw [if_pos (by rfl)])
      go_simp
      go_at_call 34
      refine (CT_1.out _ RB_27.out).mono ?_
      rintro e wz28 ⟨rfl, hw⟩
      obtain rfl := hw
      refine hK.out _ _ (KEEP.out _ BB27.out) (fun hHeld => ?_)
      clear hK K
      (try simp only [Act.put, List.setIfInBounds_toArray, List.set_cons_zero, List.set_cons_succ])
      refine wpAnyH_ready (rs := [5]) (by decide +kernel) (by simp) ?_
      refine AllReadyH.cons (o := ?_) ?_ (fun K hK => ?_) AllReadyH.nil
      rotate_left 1
      focus (simp only [List.getElem?_toArray, List.getElem?_cons_succ, List.getElem?_cons_zero] <;> rfl)
      (try rw [if_pos (by rfl)])
      go_simp
      go_at_call 34
      refine (CT_2.out _ RB_27.out).mono ?_
      rintro e wz29 ⟨rfl, hw⟩
      obtain rfl := hw
      refine hK.out _ _ (KEEP.out _ BB27.out) (fun hHeld => ?_)
      clear hK K
      (try simp only [Act.put, List.setIfInBounds_toArray, List.set_cons_zero, List.set_cons_succ])
      refine wpAnyH_ready (rs := [7]) (by decide +kernel) (by simp) ?_
      refine AllReadyH.cons (o := ?_) ?_ (fun K hK => ?_) AllReadyH.nil
      rotate_left 1
      focus (simp only [List.getElem?_toArray, List.getElem?_cons_succ, List.getElem?_cons_zero] <;> rfl)
      (try rw [if_pos (by rfl)])
      go_simp
      go_at_call 34
      refine (CT_10.out _ RB_27.out).mono ?_
      rintro e wz30 ⟨rfl, hw⟩
      obtain rfl := hw
      refine hK.out _ _ (KEEP.out _ BB27.out) (fun hHeld => ?_)
      clear hK K
      (try simp only [Act.put, List.setIfInBounds_toArray, List.set_cons_zero, List.set_cons_succ])
      refine wpAnyH_take (i := 8) (oi := ?_) (v := ?_) ?_ (by kernel_rfl) (by decide +kernel) (by decide +kernel) (fun _ _ _ h => h) ?_ (by assumption) ?_
      rotate_left 2
      focus (simp only [List.getElem?_toArray, List.getElem?_cons_succ, List.getElem?_cons_zero] <;> rfl)
      · refine Or.inl ⟨by rfl, ?_⟩
        intro w hSw
        (try dsimp only at hSw)
        go_simp <;> with_reducible rfl
      (try simp only [Act.put, List.setIfInBounds_toArray, List.set_cons_zero, List.set_cons_succ])
      refine wpAnyH_ready (rs := [10]) (by decide +kernel) (by simp) ?_
      refine AllReadyH.cons (o := ?_) ?_ (fun K hK => ?_) AllReadyH.nil
      rotate_left 1
      focus (simp only [List.getElem?_toArray, List.getElem?_cons_succ, List.getElem?_cons_zero] <;> rfl)
      (try rw [if_pos (by rfl)])
      go_simp
      go_at_call 34
      refine (CT_18.out _ RB_27.out).mono ?_
      rintro e wz31 ⟨rfl, hw⟩
      obtain rfl := hw
      refine hK.out _ _ (KEEP.out _ BB27.out) (fun hHeld => ?_)
      clear hK K
      (try simp only [Act.put, List.setIfInBounds_toArray, List.set_cons_zero, List.set_cons_succ])
      refine wpAnyH_ready (rs := [12]) (by decide +kernel) (by simp) ?_
      refine AllReadyH.cons (o := ?_) ?_ (fun K hK => ?_) AllReadyH.nil
      rotate_left 1
      focus (simp only [List.getElem?_toArray, List.getElem?_cons_succ, List.getElem?_cons_zero] <;> rfl)
      (try rw [if_pos (by rfl)])
      go_simp
      go_at_call 34
      refine (CT_22.out _ RB_27.out).mono ?_
      rintro e wz32 ⟨rfl, hw⟩
      obtain rfl := hw
      refine hK.out _ _ (KEEP.out _ BB27.out) (fun hHeld => ?_)
      clear hK K
      (try simp only [Act.put, List.setIfInBounds_toArray, List.set_cons_zero, List.set_cons_succ])
      refine wpAnyH_take (i := 19) (oi := ?_) (v := ?_) ?_ (by kernel_rfl) (by decide +kernel) (by decide +kernel) (fun _ _ _ h => h) ?_ (by assumption) ?_
      rotate_left 2
      focus (simp only [List.getElem?_toArray, List.getElem?_cons_succ, List.getElem?_cons_zero] <;> rfl)
      · refine Or.inl ⟨by rfl, ?_⟩
        intro w hSw
        (try dsimp only at hSw)
        go_simp <;> with_reducible rfl
      (try simp only [Act.put, List.setIfInBounds_toArray, List.set_cons_zero, List.set_cons_succ])
      refine wpAnyH_ready (rs := [21]) (by decide +kernel) (by simp) ?_
      refine AllReadyH.cons (o := ?_) ?_ (fun K hK => ?_) AllReadyH.nil
      rotate_left 1
      focus (simp only [List.getElem?_toArray, List.getElem?_cons_succ, List.getElem?_cons_zero] <;> rfl)
      rw [if_pos (by rfl)]
      refine wp_storeX (.tmp 5) (.tmp 37) ga27 (envC ⟨(some ⟨ab, ao + 30, none⟩, c - 30), (some ⟨ab, ao + m, none⟩, c - m)⟩ (envOf b)) _ tyEnv rfl (envC_one _ _) HN_27.out rfl rfl rfl (by simp only [envC, HLB.out, HLT.out]; rfl) ?_
      (try simp only [Act.put])
      obtain ⟨wz33, hwz⟩ : ∃ x, x = wz27.setRow ga27 (envC ⟨(some ⟨ab, ao + 30, none⟩, c - 30), (some ⟨ab, ao + m, none⟩, c - m)⟩ (envOf b)) := ⟨_, rfl⟩
      have BB33 := Lib.hid (show Below W.heap.size W wz33 from by rw [hwz]; exact Below.setRowG BB27.out LEN.out _)
      have hq := Bx.setRowOther HJ_27.out NEJN.out (envC ⟨(some ⟨ab, ao + 30, none⟩, c - 30), (some ⟨ab, ao + m, none⟩, c - m)⟩ (envOf b))
      rw [← hwz] at hq
      have HJ_33 := Lib.hid hq
      clear hq
      have HN_33 := Lib.hid (show Bx wz33 ga27 25 (envC ⟨(some ⟨ab, ao + 30, none⟩, c - 30), (some ⟨ab, ao + m, none⟩, c - m)⟩ (envOf b)) from by rw [hwz]; exact Bx.setRow HN_27.out _)
      have hq := RB_27.out.setRow (C' := (envC ⟨(some ⟨ab, ao + 30, none⟩, c - 30), (some ⟨ab, ao + m, none⟩, c - m)⟩ (envOf b))) HN_27.out (no8_env _ _)
      rw [← hwz] at hq
      have RB_33 := Lib.hid hq
      clear hq
      rw [← hwz]
      clear hwz
      refine hK.out _ _ (KEEP.out _ BB33.out) (fun hHeld => ?_)
      clear hK K
      (try dsimp only)
      refine wpAnyH_done (by decide +kernel) ?_ _
      refine NoPanic.normal ?_
      clear KEEP
      go_wp2_with fail
      go_meet
      case rel => exact ⟨ga27, rfl, HN_33.out, HJ_33.out, BB33.out, RB_33.out, LEN.out, NEJN.out⟩
    refine AllReadyH.cons (o := ?_) ?_ (fun K hK => ?_) AllReadyH.nil
    rotate_left 1
    focus (simp only [List.getElem?_toArray, List.getElem?_cons_succ, List.getElem?_cons_zero] <;> rfl)
    go_simp
    obtain ⟨wz34, hwz⟩ : ∃ x, x = wz0.alloc (.cells #[.int .i64 0, .int .i64 0, .int .i64 0, .int .i64 0, .int .i64 0, .int .i64 0, .slice none 0 0, .slice none 0 0] 25) := ⟨_, rfl⟩
    have hb : Below wz0.heap.size wz0 wz34 := by rw [hwz]; exact (Below.refl wz0.heap.size wz0).alloc (Nat.le_refl _) _
    have hx : Bx wz34 wz0.heap.size 25 (envC we0 ev0) := by rw [hwz]; exact Bx.new _ _ _
    have BB34 := Lib.hid (belG BB0.out hb BB0.out.size)
    rw [← hwz]
    obtain ⟨ga34, hga⟩ : ∃ g, g = wz0.heap.size := ⟨_, rfl⟩
    rw [← hga] at hx
    (try rw [← hga])
    have HN_34 := Lib.hid hx
    have LEN := Lib.hid (show W.heap.size ≤ ga34 from by rw [hga]; exact BB0.out.size)
    have NEJN := Lib.hid (show W.heap.size ≠ ga34 from by have h1 := Bx.lt HJ_0.out; rw [hga]; omega)
    have NENJ := Lib.hid (NEJN.out.symm)
    have HJ_34 := Lib.hid (Bx.go HJ_0.out hb)
    have RB_34 := Lib.hid (RB_0.out.go hb)
    clear hb hx hwz hga
    refine hK.out _ _ (KEEP.out _ BB34.out) (fun hHeld => ?_)
    clear hK K
    (try simp only [Act.put, List.setIfInBounds_toArray, List.set_cons_zero, List.set_cons_succ])
    refine wpAnyH_ready (rs := [1]) (by decide +kernel) (by simp) ?_
    refine AllReadyH.cons (o := ?_) ?_ (fun K hK => ?_) AllReadyH.nil
    rotate_left 1
    focus (simp only [List.getElem?_toArray, List.getElem?_cons_succ, List.getElem?_cons_zero] <;> rfl)
    (try rw [if_pos (by rfl)])
    go_simp
    go_at_call 34
    refine (CT_0.out _ RB_34.out).mono ?_
    rintro e wz35 ⟨rfl, hw⟩
    obtain rfl := hw
    refine hK.out _ _ (KEEP.out _ BB34.out) (fun hHeld => ?_)
    clear hK K
    (try simp only [Act.put, List.setIfInBounds_toArray, List.set_cons_zero, List.set_cons_succ])
    refine wpAnyH_ready (rs := [3]) (by decide +kernel) (by simp) ?_
    refine AllReadyH.cons (o := ?_) ?_ (fun K hK => ?_) AllReadyH.nil
    rotate_left 1
    focus (simp only [List.getElem?_toArray, List.getElem?_cons_succ, List.getElem?_cons_zero] <;> rfl)
    (try rw [if_pos (by rfl)])
    go_simp
    go_at_call 34
    refine (CT_1.out _ RB_34.out).mono ?_
    rintro e wz36 ⟨rfl, hw⟩
    obtain rfl := hw
    refine hK.out _ _ (KEEP.out _ BB34.out) (fun hHeld => ?_)
    clear hK K
    (try simp only [Act.put, List.setIfInBounds_toArray, List.set_cons_zero, List.set_cons_succ])
    refine wpAnyH_ready (rs := [5]) (by decide +kernel) (by simp) ?_
    refine AllReadyH.cons (o := ?_) ?_ (fun K hK => ?_) AllReadyH.nil
    rotate_left 1
    focus (simp only [List.getElem?_toArray, List.getElem?_cons_succ, List.getElem?_cons_zero] <;> rfl)
    (try rw [if_pos (by rfl)])
    go_simp
    go_at_call 34
    refine (CT_2.out _ RB_34.out).mono ?_
    rintro e wz37 ⟨rfl, hw⟩
    obtain rfl := hw
    refine hK.out _ _ (KEEP.out _ BB34.out) (fun hHeld => ?_)
    clear hK K
    (try simp only [Act.put, List.setIfInBounds_toArray, List.set_cons_zero, List.set_cons_succ])
    refine wpAnyH_ready (rs := [7]) (by decide +kernel) (by simp) ?_
    refine AllReadyH.cons (o := ?_) ?_ (fun K hK => ?_) AllReadyH.nil
    rotate_left 1
    focus (simp only [List.getElem?_toArray, List.getElem?_cons_succ, List.getElem?_cons_zero] <;> rfl)
    (try rw [if_pos (by rfl)])
    go_simp
    go_at_call 34
    refine (CT_10.out _ RB_34.out).mono ?_
    rintro e wz38 ⟨rfl, hw⟩
    obtain rfl := hw
    refine hK.out _ _ (KEEP.out _ BB34.out) (fun hHeld => ?_)
    clear hK K
    (try simp only [Act.put, List.setIfInBounds_toArray, List.set_cons_zero, List.set_cons_succ])
    refine wpAnyH_take (i := 8) (oi := ?_) (v := ?_) ?_ (by kernel_rfl) (by decide +kernel) (by decide +kernel) (fun _ _ _ h => h) ?_ (by assumption) ?_
    rotate_left 2
    focus (simp only [List.getElem?_toArray, List.getElem?_cons_succ, List.getElem?_cons_zero] <;> rfl)
    · refine Or.inl ⟨by rfl, ?_⟩
      intro w hSw
      (try dsimp only at hSw)
      go_simp <;> with_reducible rfl
    (try simp only [Act.put, List.setIfInBounds_toArray, List.set_cons_zero, List.set_cons_succ])
    refine wpAnyH_ready (rs := [10]) (by decide +kernel) (by simp) ?_
    refine AllReadyH.cons (o := ?_) ?_ (fun K hK => ?_) AllReadyH.nil
    rotate_left 1
    focus (simp only [List.getElem?_toArray, List.getElem?_cons_succ, List.getElem?_cons_zero] <;> rfl)
    (try rw [if_pos (by rfl)])
    go_simp
    go_at_call 34
    refine (CT_18.out _ RB_34.out).mono ?_
    rintro e wz39 ⟨rfl, hw⟩
    obtain rfl := hw
    refine hK.out _ _ (KEEP.out _ BB34.out) (fun hHeld => ?_)
    clear hK K
    (try simp only [Act.put, List.setIfInBounds_toArray, List.set_cons_zero, List.set_cons_succ])
    refine wpAnyH_ready (rs := [12]) (by decide +kernel) (by simp) ?_
    refine AllReadyH.cons (o := ?_) ?_ (fun K hK => ?_) AllReadyH.nil
    rotate_left 1
    focus (simp only [List.getElem?_toArray, List.getElem?_cons_succ, List.getElem?_cons_zero] <;> rfl)
    (try rw [if_pos (by rfl)])
    go_simp
    go_at_call 34
    refine (CT_22.out _ RB_34.out).mono ?_
    rintro e wz40 ⟨rfl, hw⟩
    obtain rfl := hw
    refine hK.out _ _ (KEEP.out _ BB34.out) (fun hHeld => ?_)
    clear hK K
    (try simp only [Act.put, List.setIfInBounds_toArray, List.set_cons_zero, List.set_cons_succ])
    refine wpAnyH_take (i := 19) (oi := ?_) (v := ?_) ?_ (by kernel_rfl) (by decide +kernel) (by decide +kernel) (fun _ _ _ h => h) ?_ (by assumption) ?_
    rotate_left 2
    focus (simp only [List.getElem?_toArray, List.getElem?_cons_succ, List.getElem?_cons_zero] <;> rfl)
    · refine Or.inl ⟨by rfl, ?_⟩
      intro w hSw
      (try dsimp only at hSw)
      go_simp <;> with_reducible rfl
    (try simp only [Act.put, List.setIfInBounds_toArray, List.set_cons_zero, List.set_cons_succ])
    refine wpAnyH_ready (rs := [21]) (by decide +kernel) (by simp) ?_
    refine AllReadyH.cons (o := ?_) ?_ (fun K hK => ?_) AllReadyH.nil
    rotate_left 1
    focus (simp only [List.getElem?_toArray, List.getElem?_cons_succ, List.getElem?_cons_zero] <;> rfl)
    rw [if_pos (by rfl)]
    refine wp_storeX (.tmp 5) (.tmp 37) ga34 (envC ⟨(some ⟨ab, ao + 30, none⟩, c - 30), (some ⟨ab, ao + m, none⟩, c - m)⟩ (envOf b)) _ tyEnv rfl (envC_one _ _) HN_34.out rfl rfl rfl (by simp only [envC, HLB.out, HLT.out]; rfl) ?_
    (try simp only [Act.put])
    obtain ⟨wz41, hwz⟩ : ∃ x, x = wz34.setRow ga34 (envC ⟨(some ⟨ab, ao + 30, none⟩, c - 30), (some ⟨ab, ao + m, none⟩, c - m)⟩ (envOf b)) := ⟨_, rfl⟩
    have BB41 := Lib.hid (show Below W.heap.size W wz41 from by rw [hwz]; exact Below.setRowG BB34.out LEN.out _)
    have hq := Bx.setRowOther HJ_34.out NEJN.out (envC ⟨(some ⟨ab, ao + 30, none⟩, c - 30), (some ⟨ab, ao + m, none⟩, c - m)⟩ (envOf b))
    rw [← hwz] at hq
    have HJ_41 := Lib.hid hq
    clear hq
    have HN_41 := Lib.hid (show Bx wz41 ga34 25 (envC ⟨(some ⟨ab, ao + 30, none⟩, c - 30), (some ⟨ab, ao + m, none⟩, c - m)⟩ (envOf b)) from by rw [hwz]; exact Bx.setRow HN_34.out _)
    have hq := RB_34.out.setRow (C' := (envC ⟨(some ⟨ab, ao + 30, none⟩, c - 30), (some ⟨ab, ao + m, none⟩, c - m)⟩ (envOf b))) HN_34.out (no8_env _ _)
    rw [← hwz] at hq
    have RB_41 := Lib.hid hq
    clear hq
    rw [← hwz]
    clear hwz
    refine hK.out _ _ (KEEP.out _ BB41.out) (fun hHeld => ?_)
    clear hK K
    (try dsimp only)
    refine wpAnyH_done (by decide +kernel) ?_ _
    refine NoPanic.normal ?_
    clear KEEP
    go_wp2_with fail
    go_meet
    case rel => exact ⟨ga34, rfl, HN_41.out, HJ_41.out, BB41.out, RB_41.out, LEN.out, NEJN.out⟩
  case rest =>
    obtain ⟨g, rfl, hg, hj, hb, hk, hge, hne⟩ := hcut
    obtain ⟨w1, hw⟩ : ∃ x, x = wc := ⟨_, rfl⟩
    rw [← hw] at hg hj hb hk ⊢
    clear hw
    have HB1 := Lib.hid hb
    have G1 := Lib.hid hg
    have J1 := Lib.hid hj
    have RE1 := Lib.hid (show EnvR w1 ⟨(some ⟨ab, ao + 30, none⟩, c - 30), (some ⟨ab, ao + m, none⟩, c - m)⟩ (envOf b) from by
      have hm2 : b.length - 16 = m := by rw [HM.out, HN.out]
      have h46 : 30 + (b.length - 46) ≤ b.length := by have := HN.out; omega
      refine ⟨hk.cut 30 (b.length - 46) h46, ?_⟩
      show KeyE w1 (some ⟨ab, ao + m, none⟩, c - m) (b.drop (b.length - 16))
      rw [hm2]
      have h3 := hk.cut m (b.length - m) (by have := HN.out; omega)
      rwa [List.take_of_length_le (by rw [List.length_drop]; omega)] at h3)
    clear hg hj hb hk hge hne HB J RB
    go_wp2_with (refine loadX (.tmp 5) g (envC ⟨(some ⟨ab, ao + 30, none⟩, c - 30), (some ⟨ab, ao + m, none⟩, c - m)⟩ (envOf b)) tyEnv rfl G1.out rfl rfl rfl ?_)
    refine (right12_any _ _ _).mono ?_
    rintro r w2 ⟨rfl, hb⟩
    have HB2 := Lib.hid (belG HB1.out hb HB1.out.size)
    have G2 := Lib.hid (Bx.go G1.out hb)
    have J := Lib.hid (Bx.go J1.out hb)
    have RE2 := Lib.hid (RE1.out.go hb)
    clear hb HB1 G1 J1 RE1
    by_cases hr : RightE (envOf b)
    · rw [decide_eq_true hr]
      have HI := Lib.hid ((HR.out True).1 hr)
      clear hr
      go_wp2_with (first | (refine loadX (.tmp 5) g (envC ⟨(some ⟨ab, ao + 30, none⟩, c - 30), (some ⟨ab, ao + m, none⟩, c - m)⟩ (envOf b)) tyEnv rfl G2.out rfl rfl rfl ?_) | (refine storeX (.tmp 2) (.tmp 43) W.heap.size (envC ⟨(some ⟨ab, ao + 30, none⟩, c - 30), (some ⟨ab, ao + m, none⟩, c - m)⟩ (envOf b)) _ tyEnv rfl (envC_one _ _) J.out rfl rfl rfl rfl rfl ?_))
      (try dsimp only)
      refine bodyPost_ret (retX2 rfl _ _ W.heap.size (envC ⟨(some ⟨ab, ao + 30, none⟩, c - 30), (some ⟨ab, ao + m, none⟩, c - m)⟩ (envOf b)) _ tyEnv rfl rfl rfl (Bx.setRow J.out _)) rfl ?_
      rw [HI.out]
      exact envEnd HB2.out (Nat.le_refl _) J.out (no8_env _ _) RE2.out
    · rw [decide_eq_false hr]
      have HI := Lib.hid ((HR.out True).2 hr)
      clear hr
      go_wp2_with (refine storeX (.tmp 2) (.tmp 42) W.heap.size (envC we0 ev0) _ tyEnv rfl (envC_one _ _) J.out rfl rfl rfl rfl rfl ?_)
      (try dsimp only)
      refine bodyPost_ret (retX2 rfl _ _ W.heap.size (envC we0 ev0) _ tyEnv rfl rfl rfl (Bx.setRow J.out _)) rfl ?_
      exact ⟨by rw [HI.out]; exact ⟨we0, rfl, envR0 _⟩, Below.setRowG HB2.out (Nat.le_refl _) _⟩
end Go.Proofs.Ytjkkceecagbjjaa
