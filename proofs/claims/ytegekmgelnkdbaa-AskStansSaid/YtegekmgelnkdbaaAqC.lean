
/- Package ask: a copy of bytes, which bytes are the same; Stan, Known, from, Same, none, may, Right, Match. -/
import Derived.Test.YtegekmgelnkdbaaAqB
import Derived.LoopN
namespace Go.Proofs.Ytegekmgelnkdbaa
open Go.RowKit

/-- a call's answer: a row of bytes -/
def AnsKq (W' : World) (e : Ending) (k : List UInt8) : Prop := ∃ y : Wkb, e = .returned (.slice y.1 k.length y.2) ∧ KeyB W' y k
set_option maxRecDepth 100000 in
set_option maxHeartbeats 1000000 in
theorem cloneQ_any (x : Wkb) (k : List UInt8) (w : World) (hl : k.length ≤ 50000) (hk : KeyB w x k) :
    Calls Try.prog 36 #[.slice x.1 k.length x.2] w fun e w' => AnsKq w' e k ∧ Below w.heap.size w w' := by
  obtain ⟨K, kc⟩ := x
  have hr : Rd w w.heap.size K k := hk.2.2
  clear hk
  obtain ⟨n, hn⟩ : ∃ n, n = k.length := ⟨_, rfl⟩
  have HN := Lib.hid hn
  unfold AnsKq KeyB
  rw [← hn]
  rw [← hn] at hl
  clear hn
  cases K with
  | none =>
    have hk : k = [] := by
      apply List.eq_nil_of_length_eq_zero
      by_cases h0 : 0 < k.length
      · obtain ⟨b, o, e, _⟩ := hr h0; cases e
      · omega
    have hn0 : n = 0 := by rw [HN.out, hk]; rfl
    subst hn0
    have HK := Lib.hid hk
    clear hk hr
    have he : ∀ W : World, (binOp .eql 22 (.slice none 0 kc) (.slice none 0 0)).run Try.prog W = .ok (.bool true) W := fun _ => rfl
    go_enter Try.func36, Try.ntmps36
    go_wp2
    go_ret
    exact ⟨⟨(none, 0), rfl, Nat.le_refl _, (by decide : 0 ≤ 9223372036854775807), by rw [HK.out]; exact Rd.nil⟩, Below.refl _ _⟩
  | some ad =>
    have HB0 := Lib.hid ((Below.refl w.heap.size w).alloc (Nat.le_refl _) (.cells #[] 5))
    have HR := Lib.hid hr
    clear hr
    have he : ∀ W : World, (binOp .eql 22 (.slice (some ad) n kc) (.slice none 0 0)).run Try.prog W = .ok (.bool false) W := fun _ => rfl
    go_enter Try.func36, Try.ntmps36
    go_wp2_with (at_builtin; (refine wpList_appS _ rfl (.tmp 5) (.tmp 6) rfl w.heap.size _ [] k rfl (by exact Ow.made0 w (Nat.le_refl _)) (some ad) n kc w.heap.size rfl HN.out (by exact HR.out.below HB0.out (Nat.le_refl _)) (by rw [← HN.out]; simp only [List.length_nil]; omega) (by exact HB0.out.size) ?_); intro v2 w2 hown2 hgrow2; have HB2 := Lib.hid (Ow.below (w0 := w) (by exact Ow.made0 w (Nat.le_refl _)) HB0.out hgrow2 HB0.out.size); obtain ⟨Au, cu, eu, hu1, hu2, hu3⟩ := hown2.form; rw [List.nil_append, ← HN.out] at eu hu1; rw [List.nil_append] at hu3; subst eu; have HU := Lib.hid hu3; clear hown2 hgrow2 hu3)
    go_ret
    exact ⟨⟨(Au, cu), rfl, hu1, hu2, HU.out⟩, HB2.out⟩
set_option maxRecDepth 100000 in
theorem strQ_beq (p q : List UInt8) : ((⟨p.toArray⟩ : ByteArray).toList == (⟨q.toArray⟩ : ByteArray).toList) = decide (p = q) := by
  rw [Bool.eq_iff_iff]
  simp
set_option maxRecDepth 100000 in
set_option maxHeartbeats 1000000 in
theorem equalQ_any (x y : Wkb) (p q : List UInt8) (w : World) (ha : KeyB w x p) (hb : KeyB w y q) :
    Calls Try.prog 29 #[.slice x.1 p.length x.2, .slice y.1 q.length y.2] w fun e w' => e = .returned (.bool (decide (p = q))) ∧ w = w' := by
  have s1 : (convert 22 9 (.slice x.1 p.length x.2)).run Try.prog w = .ok (.string ⟨p.toArray⟩) w := run_str (P := Try.prog) ha.2.2 x.2 _ _ _ Try.underlying22 Try.underlying5 Try.underlying9
  have s2 : (convert 22 9 (.slice y.1 q.length y.2)).run Try.prog w = .ok (.string ⟨q.toArray⟩) w := run_str (P := Try.prog) hb.2.2 y.2 _ _ _ Try.underlying22 Try.underlying5 Try.underlying9
  have hs := strQ_beq p q
  generalize decide (p = q) = R at *
  generalize (⟨p.toArray⟩ : ByteArray) = S1 at *
  generalize (⟨q.toArray⟩ : ByteArray) = S2 at *
  clear ha hb
  go_enter Try.func29, Try.ntmps29
  go_wp2
  go_ret
  exact ⟨rfl, rfl⟩
set_option maxRecDepth 100000 in
theorem fromQ_any (l n g : Int) (W : World) : Calls Try.prog 35 #[.int .i64 l, .int .i64 n, .int .i64 g] W fun e W' => e = .returned (.bool (decide (l ≤ n ∧ n ≤ g))) ∧ W = W' := by
  by_cases h0 : l ≤ n
  · by_cases h1 : n ≤ g
    · rw [decide_eq_true (show l ≤ n ∧ n ≤ g from ⟨h0, h1⟩)]
      go_enter Try.func35, Try.ntmps35
      go_wp2
      go_ret
      exact ⟨by first | rfl | (simp; done) | (simp [*]; done) | (simp; omega), by first | rfl | trivial⟩
    · rw [decide_eq_false (show ¬ (l ≤ n ∧ n ≤ g) from fun k => h1 k.2)]
      go_enter Try.func35, Try.ntmps35
      go_wp2
      go_ret
      exact ⟨by first | rfl | (simp; done) | (simp [*]; done) | (simp; omega), by first | rfl | trivial⟩
  · rw [decide_eq_false (show ¬ (l ≤ n ∧ n ≤ g) from fun k => h0 k.1)]
    go_enter Try.func35, Try.ntmps35
    go_wp2
    go_ret
    exact ⟨by first | rfl | (simp; done) | (simp [*]; done) | (simp; omega), by first | rfl | trivial⟩
set_option maxRecDepth 100000 in
theorem stanQ_any (n : Int) (W : World) : Calls Try.prog 13 #[.int .i64 n] W fun e W' => e = .returned (.int .i64 (stanA n)) ∧ W = W' := by
  by_cases h0 : n < 0
  · rw [show stanA n = 1 from by unfold stanA; rw [if_neg (by omega)]]
    go_enter Try.func13, Try.ntmps13
    go_wp2
    go_ret
    exact ⟨by first | rfl | (simp; done), by first | rfl | trivial⟩
  by_cases h1 : 999999 ≤ n
  · rw [show stanA n = 1 from by unfold stanA; rw [if_neg (by omega)]]
    go_enter Try.func13, Try.ntmps13
    go_wp2
    go_ret
    exact ⟨by first | rfl | (simp; done), by first | rfl | trivial⟩
  rw [show stanA n = n + 1 from by unfold stanA; rw [if_pos (by omega)]]
  go_enter Try.func13, Try.ntmps13
  go_wp2
  go_ret
  exact ⟨by first | rfl | (simp; done), by first | rfl | trivial⟩
set_option maxRecDepth 100000 in
theorem knownQ_any (c : Int) (W : World) : Calls Try.prog 15 #[.int .i64 c] W fun e W' => e = .returned (.bool (knownA c)) ∧ W = W' := by
  rcases (show c = 1 ∨ c = 2 ∨ c = 101 ∨ c = 201 ∨ c = 301 ∨ (c ≠ 1 ∧ c ≠ 2 ∧ c ≠ 101 ∧ c ≠ 201 ∧ c ≠ 301) by omega) with rfl | rfl | rfl | rfl | rfl | ⟨h1, h2, h3, h4, h5⟩
  · rw [show knownA 1 = true from rfl]
    go_enter Try.func15, Try.ntmps15
    go_wp2
    go_ret
    exact ⟨by first | rfl | (simp; done), by first | rfl | trivial⟩
  · rw [show knownA 2 = true from rfl]
    go_enter Try.func15, Try.ntmps15
    go_wp2
    go_ret
    exact ⟨by first | rfl | (simp; done), by first | rfl | trivial⟩
  · rw [show knownA 101 = true from rfl]
    go_enter Try.func15, Try.ntmps15
    go_wp2
    go_ret
    exact ⟨by first | rfl | (simp; done), by first | rfl | trivial⟩
  · rw [show knownA 201 = true from rfl]
    go_enter Try.func15, Try.ntmps15
    go_wp2
    go_ret
    exact ⟨by first | rfl | (simp; done), by first | rfl | trivial⟩
  · rw [show knownA 301 = true from rfl]
    go_enter Try.func15, Try.ntmps15
    go_wp2
    go_ret
    exact ⟨by first | rfl | (simp; done), by first | rfl | trivial⟩
  · rw [show knownA c = false from decide_eq_false (by omega)]
    have d1 : (c == 1) = false := beq_eq_false_iff_ne.2 h1
    have d2 : (c == 2) = false := beq_eq_false_iff_ne.2 h2
    have d3 : (c == 101) = false := beq_eq_false_iff_ne.2 h3
    have d4 : (c == 201) = false := beq_eq_false_iff_ne.2 h4
    have d5 : (c == 301) = false := beq_eq_false_iff_ne.2 h5
    clear h1 h2 h3 h4 h5
    go_enter Try.func15, Try.ntmps15
    go_wp2
    go_ret
    exact ⟨by first | rfl | (simp; done), by first | rfl | trivial⟩
set_option maxRecDepth 100000 in
set_option maxHeartbeats 1000000 in
theorem askSame_any (x y : Wkb) (a b : Aq) (W : World) (hx : AqR W x a) (hy : AqR W y b) : Calls Try.prog 18 #[.agg (askC x a), .agg (askC y b)] W fun r W' => r = .returned (.bool (decide (a = b))) ∧ Below W.heap.size W W' := by
  obtain ⟨V, C, D, hC, hD, hV, hb, k1, k2, -⟩ := bxQ2 W x y a b
  have CB := Lib.hid (equalQ_any x y a.body b.body V (hx.go hb) (hy.go hb))
  rw [← hC, ← hD]
  have x0 : V.cell? ⟨W.heap.size, 0, none⟩ = some (.int .i64 a.code) := k1.cell rfl
  have y0 : V.cell? ⟨W.heap.size + 1, 0, none⟩ = some (.int .i64 b.code) := k2.cell rfl
  have x1 : V.cell? ⟨W.heap.size, 1, none⟩ = some (.int .i64 a.stan) := k1.cell rfl
  have y1 : V.cell? ⟨W.heap.size + 1, 1, none⟩ = some (.int .i64 b.stan) := k2.cell rfl
  have x2 : V.cell? ⟨W.heap.size, 2, none⟩ = some (.int .i64 a.due) := k1.cell rfl
  have y2 : V.cell? ⟨W.heap.size + 1, 2, none⟩ = some (.int .i64 b.due) := k2.cell rfl
  have x3 : V.cell? ⟨W.heap.size, 3, none⟩ = some (.int .i64 a.left) := k1.cell rfl
  have y3 : V.cell? ⟨W.heap.size + 1, 3, none⟩ = some (.int .i64 b.left) := k2.cell rfl
  have x4 : V.cell? ⟨W.heap.size, 4, none⟩ = some (.slice x.1 a.body.length x.2) := k1.cell rfl
  have y4 : V.cell? ⟨W.heap.size + 1, 4, none⟩ = some (.slice y.1 b.body.length y.2) := k2.cell rfl
  have HB := Lib.hid hb
  have HV := Lib.hid hV
  obtain ⟨R, hR⟩ : ∃ R, R = decide (a = b) := ⟨_, rfl⟩
  rw [← hR]
  have HR := Lib.hid (show R = (decide (a.code = b.code) && decide (a.stan = b.stan) && decide (a.due = b.due) && decide (a.left = b.left) && decide (a.body = b.body)) from by
    rw [hR, Bool.eq_iff_iff]
    simp only [Bool.and_eq_true, decide_eq_true_eq]
    exact ⟨fun e => by subst e; exact ⟨⟨⟨⟨rfl, rfl⟩, rfl⟩, rfl⟩, rfl⟩, fun h => Aq.ext' h.1.1.1.1 h.1.1.1.2 h.1.1.2 h.1.2 h.2⟩)
  generalize decide (a.body = b.body) = p at *
  generalize a.body.length = n1 at *
  generalize b.body.length = m1 at *
  generalize a.code = s0 at *
  generalize b.code = t0 at *
  generalize a.stan = s1 at *
  generalize b.stan = t1 at *
  generalize a.due = s2 at *
  generalize b.due = t2 at *
  generalize a.left = s3 at *
  generalize b.left = t3 at *
  clear hC hD hV hb k1 k2 hR hx hy
  have HD := HR.out
  clear HR
  go_enter Try.func18, Try.ntmps18
  go_upto_region 1 with (fail)
  rw [← HV.out]
  clear HV
  by_cases c0 : s0 = t0
  · subst c0
    by_cases c1 : s1 = t1
    · subst c1
      by_cases c2 : s2 = t2
      · subst c2
        by_cases c3 : s3 = t3
        · subst c3
          obtain rfl : R = p := HD.trans (by simp)
          clear HD
          go_wp2_with fail
          refine CB.out.mono ?_
          rintro r w1 ⟨rfl, hw⟩
          obtain rfl := hw
          go_wp2_with fail
          go_ret
          exact ⟨by first | rfl | (simp; done) | (simp [*]; done), HB.out⟩
        · have d3 : (s3 == t3) = false := beq_eq_false_iff_ne.2 c3
          obtain rfl : R = false := HD.trans (by rw [decide_eq_false c3]; simp)
          clear HD
          go_wp2_with fail
          go_ret
          exact ⟨by first | rfl | (simp; done) | (simp [*]; done), HB.out⟩
      · have d2 : (s2 == t2) = false := beq_eq_false_iff_ne.2 c2
        obtain rfl : R = false := HD.trans (by rw [decide_eq_false c2]; simp)
        clear HD
        go_wp2_with fail
        go_ret
        exact ⟨by first | rfl | (simp; done) | (simp [*]; done), HB.out⟩
    · have d1 : (s1 == t1) = false := beq_eq_false_iff_ne.2 c1
      obtain rfl : R = false := HD.trans (by rw [decide_eq_false c1]; simp)
      clear HD
      go_wp2_with fail
      go_ret
      exact ⟨by first | rfl | (simp; done) | (simp [*]; done), HB.out⟩
  · have d0 : (s0 == t0) = false := beq_eq_false_iff_ne.2 c0
    obtain rfl : R = false := HD.trans (by rw [decide_eq_false c0]; simp)
    clear HD
    go_wp2_with fail
    go_ret
    exact ⟨by first | rfl | (simp; done) | (simp [*]; done), HB.out⟩
set_option maxRecDepth 100000 in
set_option maxHeartbeats 1000000 in
theorem noneQ_any (x : Wkb) (a : Aq) (W : World) (hk : AqR W x a) : Calls Try.prog 28 #[.agg (askC x a)] W fun e W' => e = .returned (.bool (decide (NoneA a))) ∧ Below W.heap.size W W' := by
  obtain ⟨V, C, hC, hV, hb, hg⟩ := bxQ1 W x a
  have HB := Lib.hid hb
  have HV := Lib.hid hV
  have HG := Lib.hid hg
  have CS := Lib.hid (show Calls Try.prog 18 #[.agg (askC x a), .agg #[.int .i64 0, .int .i64 0, .int .i64 0, .int .i64 0, .slice none 0 0]] V fun r W' => r = .returned (.bool (decide (a = aq0))) ∧ Below V.heap.size V W' from askSame_any x wq0 a aq0 V (hk.go hb) (keyB0 _))
  rw [← hC, show decide (NoneA a) = decide (a = aq0) from decide_eq_decide.2 none_is]
  generalize decide (a = aq0) = D at *
  clear hC hV hb hg hk
  go_enter Try.func28, Try.ntmps28
  go_upto_region 1 with (fail)
  rw [← HV.out]
  clear HV
  go_wp2_with (refine loadX (.tmp 1) W.heap.size _ tyAsk rfl HG.out rfl rfl rfl ?_)
  refine CS.out.mono ?_
  rintro e w1 ⟨rfl, hb⟩
  have HB1 := Lib.hid (belG HB.out hb HB.out.size)
  clear hb
  go_wp2_with fail
  go_ret
  exact ⟨by first | rfl | (simp; done) | (simp [*]; done), HB1.out⟩
/-- may a question that waits be so? -/
def MayA (a : Aq) : Prop := FitsA a.code a.stan a.body.length ∧ 1 ≤ a.due ∧ a.due ≤ 8 ∧ 0 ≤ a.left ∧ a.left ≤ 3
instance (a : Aq) : Decidable (MayA a) := by unfold MayA; infer_instance
set_option maxRecDepth 100000 in
set_option maxHeartbeats 4000000 in
theorem mayQ_any (x : Wkb) (a : Aq) (W : World) : Calls Try.prog 25 #[.agg (askC x a)] W fun r W' => r = .returned (.bool (decide (MayA a))) ∧ Below W.heap.size W W' := by
  obtain ⟨V, C, hC, hV, hb, hg⟩ := bxQ1 W x a
  have HB := Lib.hid hb
  have HV := Lib.hid hV
  have x0 : V.cell? ⟨W.heap.size, 0, none⟩ = some (.int .i64 a.code) := hg.cell rfl
  have x1 : V.cell? ⟨W.heap.size, 1, none⟩ = some (.int .i64 a.stan) := hg.cell rfl
  have x2 : V.cell? ⟨W.heap.size, 2, none⟩ = some (.int .i64 a.due) := hg.cell rfl
  have x3 : V.cell? ⟨W.heap.size, 3, none⟩ = some (.int .i64 a.left) := hg.cell rfl
  have x4 : V.cell? ⟨W.heap.size, 4, none⟩ = some (.slice x.1 a.body.length x.2) := hg.cell rfl
  rw [← hC]
  obtain ⟨D, hD⟩ : ∃ D, D = decide (MayA a) := ⟨_, rfl⟩
  rw [← hD]
  have HDE := Lib.hid (show D = (knownA a.code && decide (1 ≤ a.stan ∧ a.stan ≤ 999999) && decide (1 ≤ a.due ∧ a.due ≤ 8) && decide (0 ≤ a.left ∧ a.left ≤ 3) && decide ((1 : Int) ≤ (a.body.length : Int) ∧ (a.body.length : Int) ≤ 900)) from by
    rw [hD, Bool.eq_iff_iff]
    simp only [Bool.and_eq_true, decide_eq_true_eq]
    unfold MayA FitsA
    exact ⟨fun h => ⟨⟨⟨⟨h.1.1, h.1.2.1, h.1.2.2.1⟩, h.2.1, h.2.2.1⟩, h.2.2.2⟩, by have := h.1.2.2.2; omega, by have := h.1.2.2.2; omega⟩, fun h => ⟨⟨h.1.1.1.1, h.1.1.1.2.1, h.1.1.1.2.2, by omega, by omega⟩, h.1.1.2.1, h.1.1.2.2, h.1.2⟩⟩)
  have C0 := Lib.hid (fun w => knownQ_any a.code w)
  have C1 := Lib.hid (fun w => fromQ_any 1 a.stan 999999 w)
  have C2 := Lib.hid (fun w => fromQ_any 1 a.due 8 w)
  have C3 := Lib.hid (fun w => fromQ_any 0 a.left 3 w)
  have C4 := Lib.hid (fun w => fromQ_any 1 (a.body.length : Int) 900 w)
  generalize knownA a.code = n0 at *
  generalize decide (1 ≤ a.stan ∧ a.stan ≤ 999999) = n1 at *
  generalize decide (1 ≤ a.due ∧ a.due ≤ 8) = n2 at *
  generalize decide (0 ≤ a.left ∧ a.left ≤ 3) = n3 at *
  generalize decide ((1 : Int) ≤ (a.body.length : Int) ∧ (a.body.length : Int) ≤ 900) = n4 at *
  generalize a.code = u0 at *
  generalize a.stan = u1 at *
  generalize a.due = u2 at *
  generalize a.left = u3 at *
  generalize a.body.length = m at *
  have HD := HDE.out
  clear hC hV hb hg hD HDE
  go_enter Try.func25, Try.ntmps25
  go_upto_region 1 with (fail)
  rw [← HV.out]
  clear HV
  go_wp2_with fail
  refine (C0.out _).mono ?_
  rintro r w1 ⟨rfl, hw⟩
  obtain rfl := hw
  clear C0
  cases n0 with
  | false =>
    obtain rfl : D = false := HD.trans (by simp)
    clear HD
    go_wp2_with fail
    go_ret
    exact ⟨by first | rfl | (simp; done) | (simp [*]; done), HB.out⟩
  | true =>
    go_wp2_with fail
    refine (C1.out _).mono ?_
    rintro r w1 ⟨rfl, hw⟩
    obtain rfl := hw
    clear C1
    cases n1 with
    | false =>
      obtain rfl : D = false := HD.trans (by simp)
      clear HD
      go_wp2_with fail
      go_ret
      exact ⟨by first | rfl | (simp; done) | (simp [*]; done), HB.out⟩
    | true =>
      go_wp2_with fail
      refine (C2.out _).mono ?_
      rintro r w1 ⟨rfl, hw⟩
      obtain rfl := hw
      clear C2
      cases n2 with
      | false =>
        obtain rfl : D = false := HD.trans (by simp)
        clear HD
        go_wp2_with fail
        go_ret
        exact ⟨by first | rfl | (simp; done) | (simp [*]; done), HB.out⟩
      | true =>
        go_wp2_with fail
        refine (C3.out _).mono ?_
        rintro r w1 ⟨rfl, hw⟩
        obtain rfl := hw
        clear C3
        cases n3 with
        | false =>
          obtain rfl : D = false := HD.trans (by simp)
          clear HD
          go_wp2_with fail
          go_ret
          exact ⟨by first | rfl | (simp; done) | (simp [*]; done), HB.out⟩
        | true =>
          go_wp2_with fail
          refine (C4.out _).mono ?_
          rintro r w1 ⟨rfl, hw⟩
          obtain rfl := hw
          obtain rfl : D = n4 := HD.trans (by simp)
          clear HD
          go_wp2_with fail
          go_ret
          exact ⟨by first | rfl | (simp; done) | (simp [*]; done), HB.out⟩
set_option maxRecDepth 100000 in
set_option maxHeartbeats 1000000 in
theorem askRight_any (x : Wkb) (a : Aq) (W : World) (hk : AqR W x a) : Calls Try.prog 17 #[.agg (askC x a)] W fun e W' => e = .returned (.bool (decide (RightA a))) ∧ Below W.heap.size W W' := by
  obtain ⟨V, C, hC, hV, hb, hg⟩ := bxQ1 W x a
  have HB := Lib.hid hb
  have HV := Lib.hid hV
  have HG := Lib.hid hg
  have CN := Lib.hid (noneQ_any x a V (hk.go hb))
  have CM := Lib.hid (fun w => mayQ_any x a w)
  rw [← hC]
  obtain ⟨D, hD⟩ : ∃ D, D = decide (RightA a) := ⟨_, rfl⟩
  rw [← hD]
  have HD := Lib.hid (show D = (decide (NoneA a) || decide (MayA a)) from by
    rw [hD, ← Bool.decide_or]
    exact decide_eq_decide.2 Iff.rfl)
  generalize decide (NoneA a) = pn at *
  generalize decide (MayA a) = pm at *
  clear hC hV hb hg hD hk
  cases pn with
  | true =>
    obtain rfl : D = true := HD.out.trans (by simp)
    clear HD
    go_enter Try.func17, Try.ntmps17
    go_upto_region 1 with (fail)
    rw [← HV.out]
    clear HV
    go_wp2_with (refine loadX (.tmp 1) W.heap.size _ tyAsk rfl HG.out rfl rfl rfl ?_)
    refine CN.out.mono ?_
    rintro e w1 ⟨rfl, hb⟩
    have HB1 := Lib.hid (belG HB.out hb HB.out.size)
    have G1 := Lib.hid (HG.out.go hb)
    clear hb HB HG CN
    go_wp2_with fail
    go_ret
    exact ⟨by first | rfl | (simp; done) | (simp [*]; done), HB1.out⟩
  | false =>
    obtain rfl : D = pm := HD.out.trans (by simp)
    clear HD
    go_enter Try.func17, Try.ntmps17
    go_upto_region 1 with (fail)
    rw [← HV.out]
    clear HV
    go_wp2_with (refine loadX (.tmp 1) W.heap.size _ tyAsk rfl HG.out rfl rfl rfl ?_)
    refine CN.out.mono ?_
    rintro e w1 ⟨rfl, hb⟩
    have HB1 := Lib.hid (belG HB.out hb HB.out.size)
    have G1 := Lib.hid (HG.out.go hb)
    clear hb HB HG CN
    go_wp2_with (refine loadX (.tmp 1) W.heap.size _ tyAsk rfl G1.out rfl rfl rfl ?_)
    refine (CM.out _).mono ?_
    rintro e w2 ⟨rfl, hb⟩
    have HB2 := Lib.hid (belG HB1.out hb HB1.out.size)
    clear hb HB1 G1
    go_wp2_with fail
    go_ret
    exact ⟨by first | rfl | (simp; done) | (simp [*]; done), HB2.out⟩
set_option maxRecDepth 100000 in
set_option maxHeartbeats 1000000 in
theorem askMatch_any (x : Wkb) (a : Aq) (c s : Int) (W : World) (hk : AqR W x a) : Calls Try.prog 19 #[.agg (askC x a), .int .i64 c, .int .i64 s] W fun e W' => e = .returned (.bool (decide (MatchA a c s))) ∧ Below W.heap.size W W' := by
  obtain ⟨V, C, hC, hV, hb, hg⟩ := bxQ1 W x a
  have HB := Lib.hid hb
  have HV := Lib.hid hV
  have HG := Lib.hid hg
  rw [← hC]
  obtain ⟨D, hD⟩ : ∃ D, D = decide (MatchA a c s) := ⟨_, rfl⟩
  rw [← hD]
  have HD := Lib.hid (show D = (!decide (NoneA a) && decide (a.code = c) && decide (a.stan = s)) from by
    rw [hD, Bool.eq_iff_iff]
    simp only [Bool.and_eq_true, Bool.not_eq_true', decide_eq_true_eq, decide_eq_false_iff_not]
    unfold MatchA
    exact ⟨fun h => ⟨⟨h.1, h.2.1⟩, h.2.2⟩, fun h => ⟨h.1.1, h.1.2, h.2⟩⟩)
  have CN := Lib.hid (noneQ_any x a V (hk.go hb))
  have HX := Lib.hid (fun w (h : BxQ w W.heap.size x a) => show w.cell? ⟨W.heap.size, 0, none⟩ = some (.int .i64 a.code) ∧ w.cell? ⟨W.heap.size, 1, none⟩ = some (.int .i64 a.stan) from ⟨h.cell rfl, h.cell rfl⟩)
  generalize decide (NoneA a) = pn at *
  obtain ⟨d, hd⟩ : ∃ d, d = a.code := ⟨_, rfl⟩
  obtain ⟨l, hl⟩ : ∃ d, d = a.stan := ⟨_, rfl⟩
  rw [← hd, ← hl] at HD HX
  clear hC hV hb hg hD hd hl hk
  cases pn with
  | true =>
    obtain rfl : D = false := HD.out.trans (by simp)
    clear HD
    go_enter Try.func19, Try.ntmps19
    go_upto_region 1 with (fail)
    rw [← HV.out]
    clear HV
    go_wp2_with (refine loadX (.tmp 3) W.heap.size _ tyAsk rfl HG.out rfl rfl rfl ?_)
    refine CN.out.mono ?_
    rintro e w1 ⟨rfl, hb⟩
    obtain ⟨x0, x1⟩ := HX.out _ (HG.out.go hb)
    have HB1 := Lib.hid (belG HB.out hb HB.out.size)
    clear hb HB HX HG CN
    go_wp2_with fail
    go_ret
    exact ⟨by first | rfl | (simp; done) | (simp [*]; done), HB1.out⟩
  | false =>
    by_cases c0 : d = c
    · subst c0
      by_cases c1 : l = s
      · subst c1
        obtain rfl : D = true := HD.out.trans (by simp)
        clear HD
        go_enter Try.func19, Try.ntmps19
        go_upto_region 1 with (fail)
        rw [← HV.out]
        clear HV
        go_wp2_with (refine loadX (.tmp 3) W.heap.size _ tyAsk rfl HG.out rfl rfl rfl ?_)
        refine CN.out.mono ?_
        rintro e w1 ⟨rfl, hb⟩
        obtain ⟨x0, x1⟩ := HX.out _ (HG.out.go hb)
        have HB1 := Lib.hid (belG HB.out hb HB.out.size)
        clear hb HB HX HG CN
        go_wp2_with fail
        go_ret
        exact ⟨by first | rfl | (simp; done) | (simp [*]; done), HB1.out⟩
      · have e1 : (l == s) = false := beq_eq_false_iff_ne.2 c1
        obtain rfl : D = false := HD.out.trans (by simp [c1])
        clear HD c1
        go_enter Try.func19, Try.ntmps19
        go_upto_region 1 with (fail)
        rw [← HV.out]
        clear HV
        go_wp2_with (refine loadX (.tmp 3) W.heap.size _ tyAsk rfl HG.out rfl rfl rfl ?_)
        refine CN.out.mono ?_
        rintro e w1 ⟨rfl, hb⟩
        obtain ⟨x0, x1⟩ := HX.out _ (HG.out.go hb)
        have HB1 := Lib.hid (belG HB.out hb HB.out.size)
        clear hb HB HX HG CN
        go_wp2_with fail
        go_ret
        exact ⟨by first | rfl | (simp; done) | (simp [*]; done), HB1.out⟩
    · have e0 : (d == c) = false := beq_eq_false_iff_ne.2 c0
      obtain rfl : D = false := HD.out.trans (by simp [c0])
      clear HD c0
      go_enter Try.func19, Try.ntmps19
      go_upto_region 1 with (fail)
      rw [← HV.out]
      clear HV
      go_wp2_with (refine loadX (.tmp 3) W.heap.size _ tyAsk rfl HG.out rfl rfl rfl ?_)
      refine CN.out.mono ?_
      rintro e w1 ⟨rfl, hb⟩
      obtain ⟨x0, x1⟩ := HX.out _ (HG.out.go hb)
      have HB1 := Lib.hid (belG HB.out hb HB.out.size)
      clear hb HB HX HG CN
      go_wp2_with fail
      go_ret
      exact ⟨by first | rfl | (simp; done) | (simp [*]; done), HB1.out⟩
end Go.Proofs.Ytegekmgelnkdbaa
