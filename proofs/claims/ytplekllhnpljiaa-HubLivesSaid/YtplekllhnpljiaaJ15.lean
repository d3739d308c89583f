
/- Package frame: told, may; slices.Concat and bytes.Clone whose answer is the call's own. -/
import Derived.Test.YtplekllhnpljiaaJ11
import Derived.LoopN
import Derived.Lib.AppendZerosOnto
import Derived.Laws.Bits64b
namespace Go.Proofs.Ytplekllhnpljiaa
open Go.RowKit

set_option maxRecDepth 100000 in
theorem or_i64 (a b : Nat) (ha : a < 4294967296) (hb : b < 4294967296) : bits BinOp.or IntKind.i64 (a : Int) (b : Int) = ((a ||| b : Nat) : Int) := by
  have hx : a ||| b < 2 ^ 32 := Nat.or_lt_two_pow (by omega) (by omega)
  have h1 : (BitVec.ofInt 64 (a : Int)).toNat = a := by
    rw [BitVec.ofInt_natCast, BitVec.toNat_ofNat]; exact Nat.mod_eq_of_lt (by omega)
  have h2 : (BitVec.ofInt 64 (b : Int)).toNat = b := by
    rw [BitVec.ofInt_natCast, BitVec.toNat_ofNat]; exact Nat.mod_eq_of_lt (by omega)
  show IntKind.i64.wrap ((BitVec.ofInt 64 (a : Int) ||| BitVec.ofInt 64 (b : Int)).toNat : Int) = _
  rw [BitVec.toNat_or, h1, h2]
  rw [IntKind.wrap_i64]
  omega
set_option maxRecDepth 100000 in
theorem or_told (p q : Nat) (hp : p < 256) (hq : q < 256) : bits BinOp.or IntKind.i64 ((p : Int) * 256) (q : Int) = ((256 * p + q : Nat) : Int) := by
  have h := or_i64 (p * 256) q (by omega) (by omega)
  have e : p * 256 ||| q = p * 256 + q := by
    have := Nat.shiftLeft_add_eq_or_of_lt (show q < 2 ^ 8 by omega) p
    rw [Nat.shiftLeft_eq] at this
    exact this.symm
  rw [e] at h
  rw [show ((256 * p + q : Nat) : Int) = ((p * 256 + q : Nat) : Int) by omega, ← h]
  congr 1

set_option maxRecDepth 100000 in
theorem told_any (A : Option Addr) (l : List UInt8) (c : Nat) (W : World) (h2 : 2 ≤ l.length) (hr : Rd W W.heap.size A l) :
    Calls Try.prog 37 #[.slice A l.length c] W fun e W' => e = .returned (.int .i64 (nF l : Nat)) ∧ Below W.heap.size W W' := by
  obtain ⟨b, o, rfl, hb, hc⟩ := hr (by omega)
  have c0 := hc 0 (by omega)
  have c1 := hc 1 (by omega)
  rw [Nat.add_zero] at c0
  have hn := nF_of (b := l) (by omega)
  obtain ⟨p, hp⟩ : ∃ p, p = (l[0]'(by omega)).toNat := ⟨_, rfl⟩
  obtain ⟨q, hq⟩ : ∃ p, p = (l[1]'(by omega)).toNat := ⟨_, rfl⟩
  have p8 : p < 256 := by rw [hp]; exact (l[0]'(by omega)).toNat_lt
  have q8 : q < 256 := by rw [hq]; exact (l[1]'(by omega)).toNat_lt
  rw [← hp, ← hq] at hn
  rw [← hp] at c0
  rw [← hq] at c1
  have HOR := Lib.hid (or_told p q p8 q8)
  have i6 : (0 : Int) < (l.length : Int) := by omega
  have i7 : (1 : Int) < (l.length : Int) := by omega
  have HN := Lib.hid hn
  have HB := Lib.hid (fun k => below_drewN (Below.refl W.heap.size W) k)
  clear hc hp hq hn h2
  generalize nF l = N at *
  generalize l.length = n at *
  go_enter Try.func37, Try.ntmps37
  go_wp2
  go_quiet (fail)
  go_wp2
  go_ret
  exact ⟨by rw [HN.out, ← HOR.out]; rfl, HB.out _⟩

set_option maxRecDepth 100000 in
theorem may_any (x : Int) (W : World) : Calls Try.prog 38 #[.int .i64 x] W fun e W' => e = .returned (.bool (decide (1 ≤ x ∧ x ≤ 1024))) ∧ W' = W := by
  by_cases h1 : 1 ≤ x
  · have e : decide (1 ≤ x ∧ x ≤ 1024) = decide (x ≤ 1024) := by simp [h1]
    rw [e]
    by_cases h2 : x ≤ 1024
    · rw [decide_eq_true h2]
      go_enter Try.func38, Try.ntmps38
      go_wp2
      go_ret
      exact ⟨rfl, rfl⟩
    · rw [decide_eq_false h2]
      go_enter Try.func38, Try.ntmps38
      go_wp2
      go_ret
      exact ⟨rfl, rfl⟩
  · have e : decide (1 ≤ x ∧ x ≤ 1024) = false := by simp [h1]
    rw [e]
    go_enter Try.func38, Try.ntmps38
    go_wp2
    go_ret
    exact ⟨rfl, rfl⟩

/-- an answer: bytes, in a row of the call's own (from block B on) -/
def AnsOw8 (B : Nat) (W' : World) (e : Ending) (l : List UInt8) : Prop := ∃ v, e = .returned v ∧ Ow W' B v l
set_option maxRecDepth 100000 in
theorem Ow.base8 {w : World} {B B' : Nat} {v : Value} {l : List UInt8} (h : Ow w B v l) (hB : B' ≤ B) : Ow w B' v l := by
  refine ⟨h.1, ?_⟩
  rcases h.2 with h0 | ⟨g, cap, cur, e, hbg, hr⟩
  · exact .inl h0
  · exact .inr ⟨g, cap, cur, e, Nat.le_trans hB hbg, hr⟩

set_option maxRecDepth 100000 in
theorem run_grow8 (ty : TypeId) (w : World) (N : Nat) (h0 : 0 < N) (hN : N ≤ 100000) :
    ∃ g cap w', (Builtin.append_ #[23, 3] ty #[.slice none 0 0, .int .i64 N]).run Try.prog w = .ok (.slice (some ⟨g, 0, none⟩) N cap) w' ∧ N ≤ cap ∧ cap ≤ 9223372036854775807 ∧ Ow w' w.heap.size (.slice (some ⟨g, 0, none⟩) 0 cap) [] ∧ Below w.heap.size w w' := by
  obtain ⟨i0, hi, hz0, hz1, hz2⟩ := info_parts info5
  have hrun := Lib.run_append_nil_zeros (P := Try.prog) w 23 3 ty 5 i0 (.int .u8 0) .i64 .i64 Try.underlying23 Try.underlying3 hi hz0 N h0 (by rw [hz1]; omega) (by omega) (by rw [hz2]; omega)
  have hge := grownCap_ge w N 0 5
  have hcm : grownCap w N 0 5 ≤ maxLen := grownCap_le_maxLen w N 0 5 (by unfold maxLen; omega)
  have hzc : (Value.int .u8 0).cells.size = 1 := rfl
  refine ⟨_, _, _, hrun, hge, by simpa [maxLen] using hcm, ⟨rfl, .inr ⟨w.heap.size, _, _, rfl, Nat.le_refl _, heap_alloc_new w.drew _, Nat.zero_le _, hcm, ?_, ?_⟩⟩, (Below.refl _ _).drew.alloc (Nat.le_refl _) _⟩
  · simp only [Array.size_append, size_zeroCells, hzc]
    omega
  · simp [cs]
set_option maxRecDepth 100000 in
set_option maxHeartbeats 1000000 in
theorem grow8_any (N : Nat) (hN : N ≤ 100000) (w : World) :
    Calls Try.prog 42 #[.slice none 0 0, .int .i64 N] w fun e w' => AnsOw8 w.heap.size w' e [] ∧ Below w.heap.size w w' := by
  by_cases h0 : 0 < N
  · have h0i : (0 : Int) < (N : Int) := by omega
    have HG := Lib.hid (run_grow8 23 w N h0 hN)
    clear h0
    go_enter Try.func42, Try.ntmps42
    go_wp2_with (at_builtin; obtain ⟨g, cap, w2, hr, h1, h2, ho, hb⟩ := HG.out; refine Lib.wpList_append_run w rfl (.tmp 20) (.tmp 21) 23 3 rfl _ _ rfl rfl _ _ hr ?_; have HO := Lib.hid ho; have HB := Lib.hid hb; clear ho hb hr)
    go_ret
    exact ⟨⟨_, rfl, HO.out⟩, HB.out⟩
  · obtain rfl : N = 0 := by omega
    clear h0 hN
    go_enter Try.func42, Try.ntmps42
    go_wp2
    go_ret
    exact ⟨⟨_, rfl, Ow.nil⟩, Below.refl _ _⟩
set_option maxRecDepth 100000 in
set_option maxHeartbeats 1000000 in
theorem concat8_any (g : Nat) (A B : Option Addr) (us vs : List UInt8) (n m c d : Nat) (w : World) (hn : n = us.length) (hm : m = vs.length) (hle : n ≤ 50000) (hle2 : m ≤ 50000)
    (hg : w.heap[g]? = some (.cells #[.slice A n c, .slice B m d] 23 (0, 0))) (hr : Rd w w.heap.size A us) (hs : Rd w w.heap.size B vs) :
    Calls Try.prog 40 #[.slice (some ⟨g, 0, none⟩) 2 2] w fun e w' => AnsOw8 w.heap.size w' e (us ++ vs) ∧ Below w.heap.size w w' := by
  have RG := Lib.hid (fun w' (h : Below w.heap.size w w') => oldG hg h (Nat.le_refl _))
  have R0 := Lib.hid (fun w' (h : Below w.heap.size w w') => (cG2 (RG.out w' h)).1)
  have R1 := Lib.hid (fun w' (h : Below w.heap.size w w') => (cG2 (RG.out w' h)).2)
  have RA := Lib.hid (fun w' (h : Below w.heap.size w w') => hr.below h (Nat.le_refl _))
  have RB := Lib.hid (fun w' (h : Below w.heap.size w w') => hs.below h (Nat.le_refl _))
  have HN := Lib.hid hn
  have HM := Lib.hid hm
  have CG := Lib.hid (grow8_any (n + m) (by omega) w)
  have c0 := R0.out w (Below.refl _ _)
  have c1 := R1.out w (Below.refl _ _)
  have hn0 : ¬ (n : Int) < 0 := by omega
  have hn1 : ¬ (n : Int) + (m : Int) < 0 := by omega
  have e1 : ((n + m : Nat) : Int) = (n : Int) + (m : Int) := by omega
  rw [e1] at CG
  clear hg hr hs hn hm e1
  go_enter Try.func40, Try.ntmps40
  go_wp2
  refine wp_loop_rounds 3 ?_
  rw [rounds_succ]
  go_wp2
  rw [rounds_succ]
  go_wp2
  rw [rounds_succ]
  go_wp2_with fail
  refine CG.out.mono ?_
  rintro e w1 ⟨⟨v1, rfl, ho⟩, hb⟩
  have HO := Lib.hid ho
  have HB := Lib.hid hb
  have k0 := R0.out _ hb
  clear ho hb c0 c1
  go_wp2_with fail
  refine wp_loop_rounds 3 ?_
  rw [rounds_succ]
  go_wp2_with (at_builtin; (refine wpList_appS w1 rfl (.tmp 31) (.tmp 32) rfl w.heap.size _ [] us rfl HO.out A n c w.heap.size rfl HN.out (by exact RA.out _ HB.out) (by rw [← HN.out]; simp only [List.length_nil]; omega) HB.out.size ?_); intro v2 w2 hown2 hgrow2; have HB2 := Lib.hid (Ow.below (w0 := w) HO.out HB.out hgrow2 HB.out.size); rw [List.nil_append] at hown2; have HO2 := Lib.hid hown2; have k1 := R1.out _ HB2.out; clear hown2 hgrow2)
  rw [rounds_succ]
  go_wp2_with (at_builtin; (refine wpList_appS w2 rfl (.tmp 31) (.tmp 32) rfl w.heap.size _ us vs rfl HO2.out B m d w.heap.size rfl HM.out (by exact RB.out _ HB2.out) (by rw [← HN.out, ← HM.out]; omega) HB2.out.size ?_); intro v3 w3 hown3 hgrow3; have HB3 := Lib.hid (Ow.below (w0 := w) HO2.out HB2.out hgrow3 HB2.out.size); have HO3 := Lib.hid hown3; clear hown3 hgrow3)
  rw [rounds_succ]
  go_wp2_with fail
  go_ret
  exact ⟨⟨v3, rfl, HO3.out⟩, HB3.out⟩
set_option maxRecDepth 100000 in
theorem concat82_any (A B : Option Addr) (us vs : List UInt8) (n m c d : Nat) (w : World) (hn : n = us.length) (hm : m = vs.length) (hle : n ≤ 50000) (hle2 : m ≤ 50000) (hr : Rd w w.heap.size A us) (hs : Rd w w.heap.size B vs) :
    Calls Try.prog 40 #[.slice (some ⟨w.heap.size, 0, none⟩) 2 2] (w.alloc (.cells #[.slice A n c, .slice B m d] 23)) fun e w' => AnsOw8 w.heap.size w' e (us ++ vs) ∧ Below w.heap.size w w' := by
  have ha := (Below.refl w.heap.size w).alloc (Nat.le_refl _) (.cells #[.slice A n c, .slice B m d] 23)
  refine (concat8_any w.heap.size A B us vs n m c d _ hn hm hle hle2 (heap_alloc_new w _) (hr.go ha) (hs.go ha)).mono fun e w' h => ⟨?_, belG ha h.2 ha.size⟩
  obtain ⟨v, e1, h1⟩ := h.1
  exact ⟨v, e1, h1.base8 ha.size⟩
set_option maxRecDepth 100000 in
set_option maxHeartbeats 1000000 in
theorem clone8_any (K : Option Addr) (k : List UInt8) (kc : Nat) (w : World) (hl : k.length ≤ 200000) (hr : Rd w w.heap.size K k) :
    Calls Try.prog 41 #[.slice K k.length kc] w fun e w' => AnsOw8 w.heap.size w' e k ∧ Below w.heap.size w w' := by
  obtain ⟨n, hn⟩ : ∃ n, n = k.length := ⟨_, rfl⟩
  have HN := Lib.hid hn
  rw [← hn]
  rw [← hn] at hl
  clear hn
  cases K with
  | none =>
    have hk : k = [] := by
      apply List.eq_nil_of_length_eq_zero
      by_cases h0 : 0 < k.length
      · obtain ⟨b, o, e, _⟩ := hr h0; cases e
      · omega
    have hn0 : n = 0 := by rw [HN.out, hk]; rfl
    subst hn0
    have HK := Lib.hid hk
    clear hk hr
    have he : ∀ W : World, (binOp .eql 23 (.slice none 0 kc) (.slice none 0 0)).run Try.prog W = .ok (.bool true) W := fun _ => rfl
    go_enter Try.func41, Try.ntmps41
    go_wp2
    go_ret
    exact ⟨⟨_, rfl, by rw [HK.out]; exact Ow.nil⟩, Below.refl _ _⟩
  | some ad =>
    have HB0 := Lib.hid ((Below.refl w.heap.size w).alloc (Nat.le_refl _) (.cells #[] 5))
    have HR := Lib.hid hr
    clear hr
    have he : ∀ W : World, (binOp .eql 23 (.slice (some ad) n kc) (.slice none 0 0)).run Try.prog W = .ok (.bool false) W := fun _ => rfl
    go_enter Try.func41, Try.ntmps41
    go_wp2_with (at_builtin; (refine wpList_appS _ rfl (.tmp 5) (.tmp 6) rfl w.heap.size _ [] k rfl (by exact Ow.made0 w (Nat.le_refl _)) (some ad) n kc w.heap.size rfl HN.out (by exact HR.out.below HB0.out (Nat.le_refl _)) (by rw [← HN.out]; simp only [List.length_nil]; omega) (by exact HB0.out.size) ?_); intro v2 w2 hown2 hgrow2; have HB2 := Lib.hid (Ow.below (w0 := w) (by exact Ow.made0 w (Nat.le_refl _)) HB0.out hgrow2 HB0.out.size); rw [List.nil_append] at hown2; have HU := Lib.hid hown2; clear hown2 hgrow2)
    go_ret
    exact ⟨⟨_, rfl, HU.out⟩, HB2.out⟩
end Go.Proofs.Ytplekllhnpljiaa
/- Package frame: Pack, Right, Same. -/

namespace Go.Proofs.Ytplekllhnpljiaa
open Go.RowKit

set_option maxRecDepth 100000 in
theorem str_beq8 (p q : List UInt8) : ((⟨p.toArray⟩ : ByteArray).toList == (⟨q.toArray⟩ : ByteArray).toList) = decide (p = q) := by
  rw [Bool.eq_iff_iff]
  simp
set_option maxRecDepth 100000 in
set_option maxHeartbeats 1000000 in
theorem bytesEqual8_any (A B : Option Addr) (p q : List UInt8) (ca cb BA BB : Nat) (w : World) (ha : Rd w BA A p) (hb : Rd w BB B q) :
    Calls Try.prog 39 #[.slice A p.length ca, .slice B q.length cb] w fun e w' => e = .returned (.bool (decide (p = q))) ∧ w = w' := by
  have s1 : (convert 23 9 (.slice A p.length ca)).run Try.prog w = .ok (.string ⟨p.toArray⟩) w := run_str (P := Try.prog) ha ca _ _ _ Try.underlying23 Try.underlying5 Try.underlying9
  have s2 : (convert 23 9 (.slice B q.length cb)).run Try.prog w = .ok (.string ⟨q.toArray⟩) w := run_str (P := Try.prog) hb cb _ _ _ Try.underlying23 Try.underlying5 Try.underlying9
  have hs := str_beq8 p q
  generalize decide (p = q) = R at *
  generalize (⟨p.toArray⟩ : ByteArray) = S1 at *
  generalize (⟨q.toArray⟩ : ByteArray) = S2 at *
  clear ha hb
  go_enter Try.func39, Try.ntmps39
  go_wp2
  go_ret
  exact ⟨rfl, rfl⟩

set_option maxRecDepth 100000 in
set_option maxHeartbeats 1000000 in
theorem fSame0_any (A B : Option Addr) (l m : List UInt8) (c d : Nat) (s1 b1 s2 b2 : Int) (W : World) (hr : Rd W W.heap.size A l) (hs : Rd W W.heap.size B m) :
    Calls Try.prog 31 #[.agg #[.slice A l.length c, .int .i64 s1, .int .i64 b1], .agg #[.slice B m.length d, .int .i64 s2, .int .i64 b2]] W fun e W' => e = .returned (.bool (decide (l = m ∧ s1 = s2 ∧ b1 = b2))) ∧ Below W.heap.size W W' := by
  obtain ⟨V, hV, hb, g1, g2⟩ := box2x W #[.slice A l.length c, .int .i64 s1, .int .i64 b1] #[.slice B m.length d, .int .i64 s2, .int .i64 b2] 25 25
  have SM := Lib.hid (bytesEqual8_any A B l m c d _ _ V (hr.go hb) (hs.go hb))
  obtain ⟨x0, x1, x2⟩ := cG3 g1
  obtain ⟨y0, y1, y2⟩ := cG3 g2
  have HB := Lib.hid hb
  have HV := Lib.hid hV
  have e3 : decide (l = m ∧ s1 = s2 ∧ b1 = b2) = (decide (l = m) && decide (s1 = s2) && decide (b1 = b2)) := by
    rw [Bool.eq_iff_iff, Bool.and_eq_true, Bool.and_eq_true, decide_eq_true_iff, decide_eq_true_iff, decide_eq_true_iff, decide_eq_true_iff]
    exact ⟨fun h => ⟨⟨h.1, h.2.1⟩, h.2.2⟩, fun h => ⟨h.1.1, h.1.2, h.2⟩⟩
  rw [e3]
  generalize decide (l = m) = P at *
  generalize l.length = n at *
  generalize m.length = k at *
  clear hr hs hb g1 g2 e3
  rw [hV] at x0 x1 x2 y0 y1 y2
  have f0 := SM.out
  rw [hV] at f0
  have F0 := Lib.hid f0
  clear f0 SM hV
  go_enter Try.func31, Try.ntmps31
  go_wp2_with fail
  refine F0.out.mono ?_
  rintro e w ⟨rfl, rfl⟩
  clear F0
  cases P with
  | false =>
    go_wp2
    go_ret
    exact ⟨by simp, by rw [← HV.out]; exact HB.out⟩
  | true =>
    by_cases h1 : s1 = s2
    · subst h1
      go_wp2
      go_ret
      refine ⟨?_, by rw [← HV.out]; exact HB.out⟩
      by_cases h2 : b1 = b2
      · subst h2; simp
      · simp [h2]
    · go_wp2
      go_ret
      exact ⟨by simp [h1], by rw [← HV.out]; exact HB.out⟩

set_option maxRecDepth 100000 in
set_option maxHeartbeats 2000000 in
theorem fRight0_any (A : Option Addr) (l : List UInt8) (c : Nat) (s b : Int) (W : World) (hl : l.length ≤ 50000) (hr : Rd W W.heap.size A l) :
    Calls Try.prog 30 #[.agg #[.slice A l.length c, .int .i64 s, .int .i64 b]] W fun e W' => e = .returned (.bool (decide (RightFd ⟨l, s, b⟩))) ∧ Below W.heap.size W W' := by
  obtain ⟨R, hR⟩ : ∃ R, R = decide (RightFd ⟨l, s, b⟩) := ⟨_, rfl⟩
  rw [← hR]
  have HR := Lib.hid hR
  have hb := (Below.refl W.heap.size W).alloc (Nat.le_refl _) (.cells #[.slice A l.length c, .int .i64 s, .int .i64 b] 25)
  have hg := heap_alloc_new W (.cells #[.slice A l.length c, .int .i64 s, .int .i64 b] 25)
  obtain ⟨V, hV⟩ : ∃ V, V = W.alloc (.cells #[.slice A l.length c, .int .i64 s, .int .i64 b] 25) := ⟨_, rfl⟩
  rw [← hV] at hb hg
  have HG := Lib.hid hg
  obtain ⟨x0, x1, x2⟩ := cG3 hg
  have RA := Lib.hid (fun w (h : Below V.heap.size V w) => (hr.go hb).go h)
  have HB := Lib.hid hb
  have HV := Lib.hid hV
  have CT := Lib.hid (fun (h2 : 2 ≤ l.length) w (h : Below V.heap.size V w) => told_any A l c w h2 (RA.out w h))
  clear hR hb hg hr
  rw [hV] at x0 x1 x2
  clear hV
  by_cases h0 : s = 0
  · subst h0
    have HRE := Lib.hid (show R = decide (l.length < 2 ∨ (1 ≤ nF l ∧ nF l ≤ 1024 ∧ l.length < nF l + 2)) from by
      rw [HR.out]
      exact decide_eq_decide.2 ⟨fun h => h.2.2.2, fun h => ⟨by simp, by simp, fun h => by simp at h, h⟩⟩)
    clear HR
    by_cases h2 : l.length < 2
    · have HF := Lib.hid (show R = true by rw [HRE.out]; exact decide_eq_true (.inl h2))
      have i4 : (l.length : Int) < 2 := by omega
      clear HRE CT RA
      generalize l.length = n at *
      go_enter Try.func30, Try.ntmps30
      go_wp2
      go_ret
      exact ⟨by rw [HF.out]; rfl, by rw [← HV.out]; exact HB.out⟩
    · have HF := Lib.hid (show R = (decide (1 ≤ (nF l : Int) ∧ (nF l : Int) ≤ 1024) && decide ((l.length : Int) < 2 + (nF l : Int))) by
        rw [HRE.out, Bool.eq_iff_iff, Bool.and_eq_true, decide_eq_true_iff, decide_eq_true_iff, decide_eq_true_iff]
        omega)
      have i4 : ¬ (l.length : Int) < 2 := by omega
      have CTN := Lib.hid (fun w h => CT.out (by omega) w h)
      have CM := Lib.hid (fun w => may_any (nF l : Int) w)
      have hNb := nF_lt l
      clear HRE CT RA h2
      generalize nF l = N at *
      generalize l.length = n at *
      go_enter Try.func30, Try.ntmps30
      go_wp2_with fail
      rw [← HV.out]
      refine (CTN.out V (Below.refl _ _)).mono ?_
      rintro e w1 ⟨rfl, hb⟩
      have HB1 := Lib.hid (belG HB.out hb HB.out.size)
      clear x0 x1 x2
      obtain ⟨x0, x1, x2⟩ := cG3 (oldG HG.out hb (Nat.le_refl _))
      clear hb
      go_wp2_with fail
      refine (CM.out w1).mono ?_
      rintro e w2 ⟨rfl, rfl⟩
      generalize decide (1 ≤ (N : Int) ∧ (N : Int) ≤ 1024) = M at *
      cases M with
      | false =>
        go_wp2
        go_ret
        exact ⟨by rw [HF.out]; rfl, HB1.out⟩
      | true =>
        by_cases h5 : (n : Int) < 2 + (N : Int)
        · go_wp2
          go_ret
          exact ⟨by rw [HF.out, decide_eq_true h5]; rfl, HB1.out⟩
        · go_wp2
          go_ret
          exact ⟨by rw [HF.out, decide_eq_false (show ¬ (n : Int) < 2 + (N : Int) by omega)]; rfl, HB1.out⟩
  · have HRE := Lib.hid (show R = decide (0 < s ∧ s ≤ 65535 ∧ l.length = 0) from by
      rw [HR.out]
      refine decide_eq_decide.2 ⟨fun h => ?_, fun h => ⟨by simp only; omega, by simp only; omega, fun _ => h.2.2, .inl (by simp only; omega)⟩⟩
      obtain ⟨a1, a2, a3, -⟩ := h
      simp only at a1 a2 a3
      exact ⟨by omega, a2, a3 (by omega)⟩)
    have k1 : (s == 0) = false := beq_eq_false_iff_ne.2 h0
    clear HR CT RA
    generalize l.length = n at *
    by_cases h1 : 0 < s
    · by_cases h2 : s ≤ 65535
      · by_cases h3 : n = 0
        · subst h3
          have HF := Lib.hid (show R = true by rw [HRE.out]; exact decide_eq_true ⟨h1, h2, rfl⟩)
          clear HRE
          go_enter Try.func30, Try.ntmps30
          go_wp2
          go_ret
          exact ⟨by rw [HF.out]; rfl, by rw [← HV.out]; exact HB.out⟩
        · have k3 : ¬ (n : Int) = 0 := by omega
          have k4 : ((n : Int) == 0) = false := beq_eq_false_iff_ne.2 k3
          have HF := Lib.hid (show R = false by rw [HRE.out]; exact decide_eq_false (fun h => h3 h.2.2))
          clear HRE
          go_enter Try.func30, Try.ntmps30
          go_wp2
          go_ret
          exact ⟨by rw [HF.out]; rfl, by rw [← HV.out]; exact HB.out⟩
      · have hF := Lib.hid (show R = false by rw [HRE.out]; exact decide_eq_false (fun h => h2 h.2.1))
        clear HRE
        go_enter Try.func30, Try.ntmps30
        go_wp2
        go_ret
        exact ⟨by rw [hF.out]; rfl, by rw [← HV.out]; exact HB.out⟩
    · have hF := Lib.hid (show R = false by rw [HRE.out]; exact decide_eq_false (fun h => h1 h.1))
      clear HRE
      go_enter Try.func30, Try.ntmps30
      go_wp2
      go_ret
      exact ⟨by rw [hF.out]; rfl, by rw [← HV.out]; exact HB.out⟩

end Go.Proofs.Ytplekllhnpljiaa
