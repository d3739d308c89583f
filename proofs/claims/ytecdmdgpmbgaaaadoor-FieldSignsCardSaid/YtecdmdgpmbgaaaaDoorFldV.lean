
/- bytes.Clone, slices.Grow, slices.Concat at bytes. -/
import Derived.Test.YtecdmdgpmbgaaaaDoorFldC
import Derived.LoopN
import Derived.Lib.AppendZerosOnto
namespace Go.Proofs.YtecdmdgpmbgaaaaDoor
open Go.RowKit

/-- a call's answer: a slice that reads as l -/
def AnsB5 (W' : World) (e : Ending) (l : List UInt8) (n : Nat) : Prop := ∃ A c, e = .returned (.slice A n c) ∧ n ≤ c ∧ c ≤ 9223372036854775807 ∧ Rd W' W'.heap.size A l

set_option maxRecDepth 100000 in
set_option maxHeartbeats 1000000 in
theorem clone5_any (K : Option Addr) (k : List UInt8) (kc : Nat) (w : World) (hl : k.length ≤ 100000) (hr : Rd w w.heap.size K k) :
    Calls Tryd.prog 45 #[.slice K k.length kc] w fun e w' => AnsB5 w' e k k.length ∧ Below w.heap.size w w' := by
  obtain ⟨n, hn⟩ : ∃ n, n = k.length := ⟨_, rfl⟩
  have HN := Lib.hid hn
  rw [← hn]
  rw [← hn] at hl
  clear hn
  cases K with
  | none =>
    have hk : k = [] := by
      apply List.eq_nil_of_length_eq_zero
      by_cases h0 : 0 < k.length
      · obtain ⟨b, o, e, _⟩ := hr h0; cases e
      · omega
    have hn0 : n = 0 := by rw [HN.out, hk]; rfl
    subst hn0
    have HK := Lib.hid hk
    clear hk hr
    have he : ∀ W : World, (binOp .eql 22 (.slice none 0 kc) (.slice none 0 0)).run Tryd.prog W = .ok (.bool true) W := fun _ => rfl
    go_enter Tryd.func45, Tryd.ntmps45
    go_wp2
    go_ret
    exact ⟨⟨none, 0, rfl, Nat.le_refl _, by omega, by rw [HK.out]; exact Rd.nil⟩, Below.refl _ _⟩
  | some ad =>
    have HB0 := Lib.hid ((Below.refl w.heap.size w).alloc (Nat.le_refl _) (.cells #[] 5))
    have HR := Lib.hid hr
    clear hr
    have he : ∀ W : World, (binOp .eql 22 (.slice (some ad) n kc) (.slice none 0 0)).run Tryd.prog W = .ok (.bool false) W := fun _ => rfl
    go_enter Tryd.func45, Tryd.ntmps45
    go_wp2_with (at_builtin; (refine wpList_appS _ rfl (.tmp 5) (.tmp 6) rfl w.heap.size _ [] k rfl (by exact Ow.made0 w (Nat.le_refl _)) (some ad) n kc w.heap.size rfl HN.out (by exact HR.out.below HB0.out (Nat.le_refl _)) (by rw [← HN.out]; simp only [List.length_nil]; omega) (by exact HB0.out.size) ?_); intro v2 w2 hown2 hgrow2; have HB2 := Lib.hid (Ow.below (w0 := w) (by exact Ow.made0 w (Nat.le_refl _)) HB0.out hgrow2 HB0.out.size); obtain ⟨Au, cu, eu, hu1, hu2, hu3⟩ := hown2.form; rw [List.nil_append, ← HN.out] at eu hu1; rw [List.nil_append] at hu3; subst eu; have HU := Lib.hid hu3; clear hown2 hgrow2 hu3)
    go_ret
    exact ⟨⟨Au, cu, rfl, hu1, hu2, HU.out⟩, HB2.out⟩

theorem run_grow5 (ty : TypeId) (w : World) (N : Nat) (h0 : 0 < N) (hN : N ≤ 100000) :
    ∃ g cap w', (Builtin.append_ #[22, 3] ty #[.slice none 0 0, .int .i64 N]).run Tryd.prog w = .ok (.slice (some ⟨g, 0, none⟩) N cap) w' ∧ N ≤ cap ∧ cap ≤ 9223372036854775807 ∧ Ow w' w.heap.size (.slice (some ⟨g, 0, none⟩) 0 cap) [] ∧ Below w.heap.size w w' := by
  obtain ⟨i0, hi, hz0, hz1, hz2⟩ := info_parts info5
  have hrun := Lib.run_append_nil_zeros (P := Tryd.prog) w 22 3 ty 5 i0 (.int .u8 0) .i64 .i64 Tryd.underlying22 Tryd.underlying3 hi hz0 N h0 (by rw [hz1]; omega) (by omega) (by rw [hz2]; omega)
  have hge := grownCap_ge w N 0 5
  have hcm : grownCap w N 0 5 ≤ maxLen := grownCap_le_maxLen w N 0 5 (by unfold maxLen; omega)
  have hzc : (Value.int .u8 0).cells.size = 1 := rfl
  refine ⟨_, _, _, hrun, hge, by simpa [maxLen] using hcm, ⟨rfl, .inr ⟨w.heap.size, _, _, rfl, Nat.le_refl _, heap_alloc_new w.drew _, Nat.zero_le _, hcm, ?_, ?_⟩⟩, (Below.refl _ _).drew.alloc (Nat.le_refl _) _⟩
  · simp only [Array.size_append, size_zeroCells, hzc]
    omega
  · simp [cs]

set_option maxRecDepth 100000 in
set_option maxHeartbeats 1000000 in
theorem grow5_any (N : Nat) (h0 : 0 < N) (hN : N ≤ 100000) (w : World) :
    Calls Tryd.prog 38 #[.slice none 0 0, .int .i64 N] w fun e w' => (∃ g cap, e = .returned (.slice (some ⟨g, 0, none⟩) 0 cap) ∧ Ow w' w.heap.size (.slice (some ⟨g, 0, none⟩) 0 cap) []) ∧ Below w.heap.size w w' := by
  have h0i : (0 : Int) < (N : Int) := by omega
  have HG := Lib.hid (run_grow5 22 w N h0 hN)
  clear h0
  go_enter Tryd.func38, Tryd.ntmps38
  go_wp2_with (at_builtin; obtain ⟨g, cap, w2, hr, h1, h2, ho, hb⟩ := HG.out; refine Lib.wpList_append_run w rfl (.tmp 20) (.tmp 21) 22 3 rfl _ _ rfl rfl _ _ hr ?_; have HO := Lib.hid ho; have HB := Lib.hid hb; clear ho hb hr)
  go_ret
  exact ⟨⟨g, cap, rfl, HO.out⟩, HB.out⟩

set_option maxRecDepth 100000 in
set_option maxHeartbeats 1000000 in
theorem concat5_any (g : Nat) (A B : Option Addr) (us vs : List UInt8) (n m c d : Nat) (w : World) (hn : n = us.length) (hm : m = vs.length) (h0 : 0 < n + m) (hle : n ≤ 10000) (hle2 : m ≤ 10000)
    (hg : w.heap[g]? = some (.cells #[.slice A n c, .slice B m d] 22 (0, 0))) (hr : Rd w w.heap.size A us) (hs : Rd w w.heap.size B vs) :
    Calls Tryd.prog 24 #[.slice (some ⟨g, 0, none⟩) 2 2] w fun e w' => AnsB5 w' e (us ++ vs) (n + m) ∧ Below w.heap.size w w' := by
  have RG := Lib.hid (fun w' (h : Below w.heap.size w w') => old5 hg h (Nat.le_refl _))
  have R0 := Lib.hid (fun w' (h : Below w.heap.size w w') => show w'.cell? ⟨g, 0, none⟩ = some (.slice A n c) from by simp [World.cell?, RG.out w' h])
  have R1 := Lib.hid (fun w' (h : Below w.heap.size w w') => show w'.cell? ⟨g, 1, none⟩ = some (.slice B m d) from by simp [World.cell?, RG.out w' h])
  have RA := Lib.hid (fun w' (h : Below w.heap.size w w') => hr.below h (Nat.le_refl _))
  have RB := Lib.hid (fun w' (h : Below w.heap.size w w') => hs.below h (Nat.le_refl _))
  have HN := Lib.hid hn
  have HM := Lib.hid hm
  have CG := Lib.hid (grow5_any (n + m) h0 (by omega) w)
  have c0 := R0.out w (Below.refl _ _)
  have c1 := R1.out w (Below.refl _ _)
  have hn0 : ¬ (n : Int) < 0 := by omega
  have hn1 : ¬ (n : Int) + (m : Int) < 0 := by omega
  have e1 : ((n + m : Nat) : Int) = (n : Int) + (m : Int) := by omega
  rw [e1] at CG
  clear hg hr hs hn hm e1
  go_enter Tryd.func24, Tryd.ntmps24
  go_wp2
  refine wp_loop_rounds 3 ?_
  rw [rounds_succ]
  go_wp2
  rw [rounds_succ]
  go_wp2
  rw [rounds_succ]
  go_wp2_with fail
  refine CG.out.mono ?_
  rintro e w1 ⟨⟨q, cap, rfl, ho⟩, hb⟩
  have HO := Lib.hid ho
  have HB := Lib.hid hb
  have k0 := R0.out _ hb
  clear ho hb c0 c1
  go_wp2_with fail
  refine wp_loop_rounds 3 ?_
  rw [rounds_succ]
  go_wp2_with (at_builtin; (refine wpList_appS w1 rfl (.tmp 31) (.tmp 32) rfl w.heap.size _ [] us rfl HO.out A n c w.heap.size rfl HN.out (by exact RA.out _ HB.out) (by rw [← HN.out]; simp only [List.length_nil]; omega) HB.out.size ?_); intro v2 w2 hown2 hgrow2; have HB2 := Lib.hid (Ow.below (w0 := w) HO.out HB.out hgrow2 HB.out.size); rw [List.nil_append] at hown2; have HO2 := Lib.hid hown2; obtain ⟨Au, cu, eu, hu1, hu2, hu3⟩ := hown2.form; rw [← HN.out] at eu; subst eu; have k1 := R1.out _ HB2.out; clear hown2 hgrow2 hu3 hu1)
  rw [rounds_succ]
  go_wp2_with (at_builtin; (refine wpList_appS w2 rfl (.tmp 31) (.tmp 32) rfl w.heap.size _ us vs rfl HO2.out B m d w.heap.size rfl HM.out (by exact RB.out _ HB2.out) (by rw [← HN.out, ← HM.out]; omega) HB2.out.size ?_); intro v3 w3 hown3 hgrow3; have HB3 := Lib.hid (Ow.below (w0 := w) HO2.out HB2.out hgrow3 HB2.out.size); obtain ⟨At, ct, et, ht1, ht2, ht3⟩ := hown3.form; rw [List.length_append, ← HN.out, ← HM.out] at et ht1; have HC3 := Lib.hid ht3; subst et; clear hown3 hgrow3 ht3)
  rw [rounds_succ]
  go_wp2_with fail
  go_ret
  exact ⟨⟨At, ct, rfl, ht1, ht2, HC3.out⟩, HB3.out⟩
end Go.Proofs.YtecdmdgpmbgaaaaDoor
