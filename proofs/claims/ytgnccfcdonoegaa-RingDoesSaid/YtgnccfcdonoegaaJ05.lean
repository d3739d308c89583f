
/- Package ring: a copy of bytes, is, none; which bytes are the same. -/
import Derived.Test.YtgnccfcdonoegaaJ04
import Derived.LoopN
namespace Go.Proofs.Ytgnccfcdonoegaa
open Go.RowKit

/-- no key has many bytes -/
def FewK (r : Rg) : Prop := r.cur.key.length ≤ 50000 ∧ r.old.key.length ≤ 50000 ∧ r.pend.key.length ≤ 50000
set_option maxRecDepth 100000 in
theorem fewR.k {r : Rg} (h : fewR r) : FewK r := ⟨Nat.le_trans h.1 (by decide), Nat.le_trans h.2.1 (by decide), Nat.le_trans h.2.2 (by decide)⟩
set_option maxRecDepth 100000 in
theorem realLen {g : Gn} (h : RealG g) : g.key.length ≤ 50000 := by rw [h.2.2]; decide
set_option maxRecDepth 100000 in
theorem RightR.k {r : Rg} (h : RightR r) : FewK r := by
  rcases h with rfl | ⟨a1, -, -, -, a5, a6⟩
  · exact ⟨by decide, by decide, by decide⟩
  · refine ⟨realLen a1, ?_, ?_⟩
    · rcases a5 with a5 | a5
      · rw [a5.1]; decide
      · exact realLen a5.1
    · rcases a6 with a6 | a6
      · rw [a6]; decide
      · exact realLen a6.1
/-- a call's answer: a key -/
def AnsKy (W' : World) (e : Ending) (k : List UInt8) : Prop := ∃ y : Wk, e = .returned (.slice y.1 k.length y.2) ∧ KeyR W' y k
set_option maxRecDepth 100000 in
set_option maxHeartbeats 1000000 in
theorem cloneK_any (x : Wk) (k : List UInt8) (w : World) (hl : k.length ≤ 50000) (hk : KeyR w x k) :
    Calls Try.prog 43 #[.slice x.1 k.length x.2] w fun e w' => AnsKy w' e k ∧ Below w.heap.size w w' := by
  obtain ⟨K, kc⟩ := x
  have hr : Rd w w.heap.size K k := hk.2.2
  clear hk
  obtain ⟨n, hn⟩ : ∃ n, n = k.length := ⟨_, rfl⟩
  have HN := Lib.hid hn
  unfold AnsKy KeyR
  rw [← hn]
  rw [← hn] at hl
  clear hn
  cases K with
  | none =>
    have hk : k = [] := by
      apply List.eq_nil_of_length_eq_zero
      by_cases h0 : 0 < k.length
      · obtain ⟨b, o, e, _⟩ := hr h0; cases e
      · omega
    have hn0 : n = 0 := by rw [HN.out, hk]; rfl
    subst hn0
    have HK := Lib.hid hk
    clear hk hr
    have he : ∀ W : World, (binOp .eql 22 (.slice none 0 kc) (.slice none 0 0)).run Try.prog W = .ok (.bool true) W := fun _ => rfl
    go_enter Try.func43, Try.ntmps43
    go_wp2
    go_ret
    exact ⟨⟨(none, 0), rfl, Nat.le_refl _, (by decide : 0 ≤ 9223372036854775807), by rw [HK.out]; exact Rd.nil⟩, Below.refl _ _⟩
  | some ad =>
    have HB0 := Lib.hid ((Below.refl w.heap.size w).alloc (Nat.le_refl _) (.cells #[] 5))
    have HR := Lib.hid hr
    clear hr
    have he : ∀ W : World, (binOp .eql 22 (.slice (some ad) n kc) (.slice none 0 0)).run Try.prog W = .ok (.bool false) W := fun _ => rfl
    go_enter Try.func43, Try.ntmps43
    go_wp2_with (at_builtin; (refine wpList_appS _ rfl (.tmp 5) (.tmp 6) rfl w.heap.size _ [] k rfl (by exact Ow.made0 w (Nat.le_refl _)) (some ad) n kc w.heap.size rfl HN.out (by exact HR.out.below HB0.out (Nat.le_refl _)) (by rw [← HN.out]; simp only [List.length_nil]; omega) (by exact HB0.out.size) ?_); intro v2 w2 hown2 hgrow2; have HB2 := Lib.hid (Ow.below (w0 := w) (by exact Ow.made0 w (Nat.le_refl _)) HB0.out hgrow2 HB0.out.size); obtain ⟨Au, cu, eu, hu1, hu2, hu3⟩ := hown2.form; rw [List.nil_append, ← HN.out] at eu hu1; rw [List.nil_append] at hu3; subst eu; have HU := Lib.hid hu3; clear hown2 hgrow2 hu3)
    go_ret
    exact ⟨⟨(Au, cu), rfl, hu1, hu2, HU.out⟩, HB2.out⟩
set_option maxRecDepth 100000 in
theorem strK_beq (p q : List UInt8) : ((⟨p.toArray⟩ : ByteArray).toList == (⟨q.toArray⟩ : ByteArray).toList) = decide (p = q) := by
  rw [Bool.eq_iff_iff]
  simp
set_option maxRecDepth 100000 in
set_option maxHeartbeats 1000000 in
theorem equalK_any (x y : Wk) (p q : List UInt8) (w : World) (ha : KeyR w x p) (hb : KeyR w y q) :
    Calls Try.prog 42 #[.slice x.1 p.length x.2, .slice y.1 q.length y.2] w fun e w' => e = .returned (.bool (decide (p = q))) ∧ w = w' := by
  have s1 : (convert 22 9 (.slice x.1 p.length x.2)).run Try.prog w = .ok (.string ⟨p.toArray⟩) w := run_str (P := Try.prog) ha.2.2 x.2 _ _ _ Try.underlying22 Try.underlying5 Try.underlying9
  have s2 : (convert 22 9 (.slice y.1 q.length y.2)).run Try.prog w = .ok (.string ⟨q.toArray⟩) w := run_str (P := Try.prog) hb.2.2 y.2 _ _ _ Try.underlying22 Try.underlying5 Try.underlying9
  have hs := strK_beq p q
  generalize decide (p = q) = R at *
  generalize (⟨p.toArray⟩ : ByteArray) = S1 at *
  generalize (⟨q.toArray⟩ : ByteArray) = S2 at *
  clear ha hb
  go_enter Try.func42, Try.ntmps42
  go_wp2
  go_ret
  exact ⟨rfl, rfl⟩
set_option maxRecDepth 100000 in
theorem noneK_any (x : Wk) (g : Gn) (W : World) : Calls Try.prog 45 #[.agg (genC x g)] W fun e W' => e = .returned (.bool (decide (g = gn0))) ∧ Below W.heap.size W W' := by
  obtain ⟨V, C, hC, hV, hb, hg⟩ := bxG1 W x g
  rw [← hC]
  have x0 : V.cell? ⟨W.heap.size, 0, none⟩ = some (.int .i64 g.no) := hg.cell rfl
  have x1 : V.cell? ⟨W.heap.size, 1, none⟩ = some (.slice x.1 g.key.length x.2) := hg.cell rfl
  have HB := Lib.hid hb
  have HV := Lib.hid hV
  rw [hV] at x0 x1
  have e9 : decide (g = gn0) = (decide (g.no = 0) && decide (g.key.length = 0)) := by
    rw [Bool.eq_iff_iff]
    simp only [Bool.and_eq_true, decide_eq_true_eq]
    exact ⟨fun h => by rw [h]; exact ⟨rfl, rfl⟩, fun h => Gn.ext' h.1 (List.eq_nil_of_length_eq_zero h.2)⟩
  rw [e9]
  generalize g.no = n at *
  generalize g.key.length = k at *
  clear hg hb hV hC e9
  by_cases h0 : n = 0
  · subst h0
    by_cases h1 : k = 0
    · subst h1
      go_enter Try.func45, Try.ntmps45
      go_wp2
      go_ret
      exact ⟨by first | rfl | (simp; done), by rw [← HV.out]; exact HB.out⟩
    · have h2 : ((k : Int) == 0) = false := beq_eq_false_iff_ne.2 (by omega)
      go_enter Try.func45, Try.ntmps45
      go_wp2
      go_ret
      exact ⟨by first | rfl | (simp [h1]; done), by rw [← HV.out]; exact HB.out⟩
  · have h2 : (n == 0) = false := beq_eq_false_iff_ne.2 h0
    go_enter Try.func45, Try.ntmps45
    go_wp2
    go_ret
    exact ⟨by first | rfl | (simp [h0]; done), by rw [← HV.out]; exact HB.out⟩
set_option maxRecDepth 100000 in
theorem isK_any (x : Wk) (g : Gn) (W : World) : Calls Try.prog 32 #[.agg (genC x g)] W fun e W' => e = .returned (.bool (decide (RealG g))) ∧ Below W.heap.size W W' := by
  obtain ⟨V, C, hC, hV, hb, hg⟩ := bxG1 W x g
  rw [← hC]
  have x0 : V.cell? ⟨W.heap.size, 0, none⟩ = some (.int .i64 g.no) := hg.cell rfl
  have x1 : V.cell? ⟨W.heap.size, 1, none⟩ = some (.slice x.1 g.key.length x.2) := hg.cell rfl
  have HB := Lib.hid hb
  have HV := Lib.hid hV
  rw [hV] at x0 x1
  obtain ⟨D, hD⟩ : ∃ D, D = decide (RealG g) := ⟨_, rfl⟩
  rw [← hD]
  have HD := Lib.hid (show D = true ↔ (1 ≤ g.no ∧ g.no ≤ 2147483647 ∧ g.key.length = 32) from by rw [hD, decide_eq_true_iff]; exact Iff.rfl)
  generalize g.no = n at *
  generalize g.key.length = k at *
  clear hg hb hV hC hD
  have HF := Lib.hid (show ¬ (1 ≤ n ∧ n ≤ 2147483647 ∧ k = 32) → D = false from fun h => by
    cases D with
    | false => rfl
    | true => exact absurd (HD.out.1 rfl) h)
  by_cases h0 : 1 ≤ n
  · by_cases h1 : n ≤ 2147483647
    · by_cases h2 : k = 32
      · obtain rfl : D = true := HD.out.2 ⟨h0, h1, h2⟩
        subst h2
        go_enter Try.func32, Try.ntmps32
        go_wp2
        go_ret
        exact ⟨by first | rfl | (simp; done), by rw [← HV.out]; exact HB.out⟩
      · obtain rfl : D = false := HF.out (fun h => h2 h.2.2)
        have h3 : ((k : Int) == 32) = false := beq_eq_false_iff_ne.2 (by omega)
        go_enter Try.func32, Try.ntmps32
        go_wp2
        go_ret
        exact ⟨by first | rfl | (simp [h2]; done) | (simp; omega), by rw [← HV.out]; exact HB.out⟩
    · obtain rfl : D = false := HF.out (fun h => h1 h.2.1)
      go_enter Try.func32, Try.ntmps32
      go_wp2
      go_ret
      exact ⟨by first | rfl | (simp; done) | (simp; omega), by rw [← HV.out]; exact HB.out⟩
  · obtain rfl : D = false := HF.out (fun h => h0 h.1)
    go_enter Try.func32, Try.ntmps32
    go_wp2
    go_ret
    exact ⟨by first | rfl | (simp; done) | (simp; omega), by rw [← HV.out]; exact HB.out⟩
end Go.Proofs.Ytgnccfcdonoegaa
