
/- Package env: a copy of bytes, which bytes are the same; may, Right, Same. -/
import Derived.Test.YtjkkceecagbjjaaJ14
import Derived.LoopN
import Derived.ChangeKeysEq
import Derived.StillTailTactics
import Derived.BigRegion
namespace Go.Proofs.Ytjkkceecagbjjaa
open Go.RowKit

/-- no part has many bytes -/
def FewEk (e : Ev) : Prop := e.body.length ≤ 50000 ∧ e.tag.length ≤ 50000
/-- a call's answer: a row of bytes -/
def AnsKl (W' : World) (e : Ending) (k : List UInt8) : Prop := ∃ y : Wke, e = .returned (.slice y.1 k.length y.2) ∧ KeyE W' y k
set_option maxRecDepth 100000 in
set_option maxHeartbeats 1000000 in
theorem cloneE_any (x : Wke) (k : List UInt8) (w : World) (hl : k.length ≤ 50000) (hk : KeyE w x k) :
    Calls Try.prog 33 #[.slice x.1 k.length x.2] w fun e w' => AnsKl w' e k ∧ Below w.heap.size w w' := by
  obtain ⟨K, kc⟩ := x
  have hr : Rd w w.heap.size K k := hk.2.2
  clear hk
  obtain ⟨n, hn⟩ : ∃ n, n = k.length := ⟨_, rfl⟩
  have HN := Lib.hid hn
  unfold AnsKl KeyE
  rw [← hn]
  rw [← hn] at hl
  clear hn
  cases K with
  | none =>
    have hk : k = [] := by
      apply List.eq_nil_of_length_eq_zero
      by_cases h0 : 0 < k.length
      · obtain ⟨b, o, e, _⟩ := hr h0; cases e
      · omega
    have hn0 : n = 0 := by rw [HN.out, hk]; rfl
    subst hn0
    have HK := Lib.hid hk
    clear hk hr
    have he : ∀ W : World, (binOp .eql 23 (.slice none 0 kc) (.slice none 0 0)).run Try.prog W = .ok (.bool true) W := fun _ => rfl
    go_enter Try.func33, Try.ntmps33
    go_wp2
    go_ret
    exact ⟨⟨(none, 0), rfl, Nat.le_refl _, (by decide : 0 ≤ 9223372036854775807), by rw [HK.out]; exact Rd.nil⟩, Below.refl _ _⟩
  | some ad =>
    have HB0 := Lib.hid ((Below.refl w.heap.size w).alloc (Nat.le_refl _) (.cells #[] 5))
    have HR := Lib.hid hr
    clear hr
    have he : ∀ W : World, (binOp .eql 23 (.slice (some ad) n kc) (.slice none 0 0)).run Try.prog W = .ok (.bool false) W := fun _ => rfl
    go_enter Try.func33, Try.ntmps33
    go_wp2_with (at_builtin; (refine wpList_appS _ rfl (.tmp 5) (.tmp 6) rfl w.heap.size _ [] k rfl (by exact Ow.made0 w (Nat.le_refl _)) (some ad) n kc w.heap.size rfl HN.out (by exact HR.out.below HB0.out (Nat.le_refl _)) (by rw [← HN.out]; simp only [List.length_nil]; omega) (by exact HB0.out.size) ?_); intro v2 w2 hown2 hgrow2; have HB2 := Lib.hid (Ow.below (w0 := w) (by exact Ow.made0 w (Nat.le_refl _)) HB0.out hgrow2 HB0.out.size); obtain ⟨Au, cu, eu, hu1, hu2, hu3⟩ := hown2.form; rw [List.nil_append, ← HN.out] at eu hu1; rw [List.nil_append] at hu3; subst eu; have HU := Lib.hid hu3; clear hown2 hgrow2 hu3)
    go_ret
    exact ⟨⟨(Au, cu), rfl, hu1, hu2, HU.out⟩, HB2.out⟩
set_option maxRecDepth 100000 in
theorem strE_beq (p q : List UInt8) : ((⟨p.toArray⟩ : ByteArray).toList == (⟨q.toArray⟩ : ByteArray).toList) = decide (p = q) := by
  rw [Bool.eq_iff_iff]
  simp
set_option maxRecDepth 100000 in
set_option maxHeartbeats 1000000 in
theorem equalE_any (x y : Wke) (p q : List UInt8) (w : World) (ha : KeyE w x p) (hb : KeyE w y q) :
    Calls Try.prog 30 #[.slice x.1 p.length x.2, .slice y.1 q.length y.2] w fun e w' => e = .returned (.bool (decide (p = q))) ∧ w = w' := by
  have s1 : (convert 23 9 (.slice x.1 p.length x.2)).run Try.prog w = .ok (.string ⟨p.toArray⟩) w := run_str (P := Try.prog) ha.2.2 x.2 _ _ _ Try.underlying23 Try.underlying5 Try.underlying9
  have s2 : (convert 23 9 (.slice y.1 q.length y.2)).run Try.prog w = .ok (.string ⟨q.toArray⟩) w := run_str (P := Try.prog) hb.2.2 y.2 _ _ _ Try.underlying23 Try.underlying5 Try.underlying9
  have hs := strE_beq p q
  generalize decide (p = q) = R at *
  generalize (⟨p.toArray⟩ : ByteArray) = S1 at *
  generalize (⟨q.toArray⟩ : ByteArray) = S2 at *
  clear ha hb
  go_enter Try.func30, Try.ntmps30
  go_wp2
  go_ret
  exact ⟨rfl, rfl⟩

set_option maxRecDepth 100000 in
theorem to_any (n m : Int) (W : World) : Calls Try.prog 36 #[.int .i64 n, .int .i64 m] W fun e W' => e = .returned (.bool (decide (0 ≤ n ∧ n ≤ m))) ∧ W = W' := by
  by_cases h0 : (0 : Int) ≤ n
  · by_cases h1 : n ≤ m
    · rw [decide_eq_true (show 0 ≤ n ∧ n ≤ m from ⟨h0, h1⟩)]
      go_enter Try.func36, Try.ntmps36
      go_wp2
      go_ret
      exact ⟨by first | rfl | (simp [h0, h1]; done), by first | rfl | trivial⟩
    · rw [decide_eq_false (show ¬ (0 ≤ n ∧ n ≤ m) from fun k => h1 k.2)]
      go_enter Try.func36, Try.ntmps36
      go_wp2
      go_ret
      exact ⟨by first | rfl | (simp [h0, h1]; done) | (simp; omega), by first | rfl | trivial⟩
  · rw [decide_eq_false (show ¬ (0 ≤ n ∧ n ≤ m) from fun k => h0 k.1)]
    go_enter Try.func36, Try.ntmps36
    go_wp2
    go_ret
    exact ⟨by first | rfl | (simp [h0]; done) | (simp; omega), by first | rfl | trivial⟩
set_option maxRecDepth 100000 in
set_option maxHeartbeats 4000000 in
theorem may_any (x : We) (e : Ev) (W : World) : Calls Try.prog 24 #[.agg (envC x e)] W fun r W' => r = .returned (.bool (decide (PartsE e))) ∧ Below W.heap.size W W' := by
  obtain ⟨V, C, hC, hV, hb, hg⟩ := bxE1 W x e
  have HB := Lib.hid hb
  have HV := Lib.hid hV
  have x0 : V.cell? ⟨W.heap.size, 0, none⟩ = some (.int .i64 e.kind) := hg.cell rfl
  have x1 : V.cell? ⟨W.heap.size, 1, none⟩ = some (.int .i64 e.dir) := hg.cell rfl
  have x2 : V.cell? ⟨W.heap.size, 2, none⟩ = some (.int .i64 e.e0) := hg.cell rfl
  have x3 : V.cell? ⟨W.heap.size, 3, none⟩ = some (.int .i64 e.e1) := hg.cell rfl
  have x4 : V.cell? ⟨W.heap.size, 4, none⟩ = some (.int .i64 e.gen) := hg.cell rfl
  have x5 : V.cell? ⟨W.heap.size, 5, none⟩ = some (.int .i64 e.seq) := hg.cell rfl
  have x6 : V.cell? ⟨W.heap.size, 6, none⟩ = some (.slice x.body.1 e.body.length x.body.2) := hg.cell rfl
  rw [← hC]
  obtain ⟨D, hD⟩ : ∃ D, D = decide (PartsE e) := ⟨_, rfl⟩
  rw [← hD]
  have HDE := Lib.hid (show D = (decide (e.kind = 1 ∨ e.kind = 2) && decide (0 ≤ e.dir ∧ e.dir ≤ 1) && decide (0 ≤ e.e0 ∧ e.e0 ≤ 4611686018427387904) && decide (0 ≤ e.e1 ∧ e.e1 ≤ 4611686018427387904) && decide (0 ≤ e.gen ∧ e.gen ≤ 2147483647) && decide (0 ≤ e.seq ∧ e.seq ≤ 4611686018427387904) && decide (1 ≤ e.body.length) && decide (e.body.length ≤ 900)) from by
    rw [hD, Bool.eq_iff_iff]
    simp only [Bool.and_eq_true, decide_eq_true_eq]
    unfold PartsE NumE
    omega)
  have C0 := Lib.hid (fun w => to_any e.dir 1 w)
  have C1 := Lib.hid (fun w => to_any e.e0 4611686018427387904 w)
  have C2 := Lib.hid (fun w => to_any e.e1 4611686018427387904 w)
  have C3 := Lib.hid (fun w => to_any e.gen 2147483647 w)
  have C4 := Lib.hid (fun w => to_any e.seq 4611686018427387904 w)
  generalize decide (0 ≤ e.dir ∧ e.dir ≤ 1) = n0 at *
  generalize decide (0 ≤ e.e0 ∧ e.e0 ≤ 4611686018427387904) = n1 at *
  generalize decide (0 ≤ e.e1 ∧ e.e1 ≤ 4611686018427387904) = n2 at *
  generalize decide (0 ≤ e.gen ∧ e.gen ≤ 2147483647) = n3 at *
  generalize decide (0 ≤ e.seq ∧ e.seq ≤ 4611686018427387904) = n4 at *
  generalize e.kind = k at *
  generalize e.dir = d at *
  generalize e.gen = g at *
  generalize e.body.length = m at *
  generalize e.e0 = u0 at *
  generalize e.e1 = u1 at *
  generalize e.seq = u2 at *
  have HD := HDE.out
  clear hC hV hb hg hD HDE
  rcases (show k = 1 ∨ k = 2 ∨ (¬ k = 1 ∧ ¬ k = 2) by omega) with rfl | rfl | ⟨k1, k2⟩
  · go_enter Try.func24, Try.ntmps24
    go_upto_region 1 with (fail)
    rw [← HV.out]
    clear HV
    go_wp2_with fail
    refine (C0.out _).mono ?_
    rintro r w1 ⟨rfl, hw⟩
    obtain rfl := hw
    clear C0
    cases n0 with
    | false =>
      obtain rfl : D = false := HD.trans (by simp)
      clear HD
      go_wp2_with fail
      go_ret
      exact ⟨by first | rfl | (simp; done) | (simp [*]; done), HB.out⟩
    | true =>
      go_wp2_with fail
      refine (C1.out _).mono ?_
      rintro r w1 ⟨rfl, hw⟩
      obtain rfl := hw
      clear C1
      cases n1 with
      | false =>
        obtain rfl : D = false := HD.trans (by simp)
        clear HD
        go_wp2_with fail
        go_ret
        exact ⟨by first | rfl | (simp; done) | (simp [*]; done), HB.out⟩
      | true =>
        go_wp2_with fail
        refine (C2.out _).mono ?_
        rintro r w1 ⟨rfl, hw⟩
        obtain rfl := hw
        clear C2
        cases n2 with
        | false =>
          obtain rfl : D = false := HD.trans (by simp)
          clear HD
          go_wp2_with fail
          go_ret
          exact ⟨by first | rfl | (simp; done) | (simp [*]; done), HB.out⟩
        | true =>
          go_wp2_with fail
          refine (C3.out _).mono ?_
          rintro r w1 ⟨rfl, hw⟩
          obtain rfl := hw
          clear C3
          cases n3 with
          | false =>
            obtain rfl : D = false := HD.trans (by simp)
            clear HD
            go_wp2_with fail
            go_ret
            exact ⟨by first | rfl | (simp; done) | (simp [*]; done), HB.out⟩
          | true =>
            go_wp2_with fail
            refine (C4.out _).mono ?_
            rintro r w1 ⟨rfl, hw⟩
            obtain rfl := hw
            clear C4
            cases n4 with
            | false =>
              obtain rfl : D = false := HD.trans (by simp)
              clear HD
              go_wp2_with fail
              go_ret
              exact ⟨by first | rfl | (simp; done) | (simp [*]; done), HB.out⟩
            | true =>
              have m0 : (0 : Int) ≤ (m : Int) := Int.natCast_nonneg m
              by_cases m1 : 1 ≤ m
              · by_cases m2 : m ≤ 900
                · obtain rfl : D = true := HD.trans (by simp [m1, m2])
                  have m3 : (1 : Int) ≤ (m : Int) := by omega
                  have m4 : (m : Int) ≤ 900 := by omega
                  clear HD
                  go_wp2_with fail
                  go_ret
                  exact ⟨by first | rfl | (simp; done) | (simp [*]; done), HB.out⟩
                · obtain rfl : D = false := HD.trans (by simp [m2])
                  have m3 : (1 : Int) ≤ (m : Int) := by omega
                  have m4 : ¬ (m : Int) ≤ 900 := by omega
                  clear HD
                  go_wp2_with fail
                  go_ret
                  exact ⟨by first | rfl | (simp; done) | (simp [*]; done), HB.out⟩
              · obtain rfl : D = false := HD.trans (by simp [m1])
                have m3 : ¬ (1 : Int) ≤ (m : Int) := by omega
                clear HD
                go_wp2_with fail
                go_ret
                exact ⟨by first | rfl | (simp; done) | (simp [*]; done), HB.out⟩
  · go_enter Try.func24, Try.ntmps24
    go_upto_region 1 with (fail)
    rw [← HV.out]
    clear HV
    go_wp2_with fail
    refine (C0.out _).mono ?_
    rintro r w1 ⟨rfl, hw⟩
    obtain rfl := hw
    clear C0
    cases n0 with
    | false =>
      obtain rfl : D = false := HD.trans (by simp)
      clear HD
      go_wp2_with fail
      go_ret
      exact ⟨by first | rfl | (simp; done) | (simp [*]; done), HB.out⟩
    | true =>
      go_wp2_with fail
      refine (C1.out _).mono ?_
      rintro r w1 ⟨rfl, hw⟩
      obtain rfl := hw
      clear C1
      cases n1 with
      | false =>
        obtain rfl : D = false := HD.trans (by simp)
        clear HD
        go_wp2_with fail
        go_ret
        exact ⟨by first | rfl | (simp; done) | (simp [*]; done), HB.out⟩
      | true =>
        go_wp2_with fail
        refine (C2.out _).mono ?_
        rintro r w1 ⟨rfl, hw⟩
        obtain rfl := hw
        clear C2
        cases n2 with
        | false =>
          obtain rfl : D = false := HD.trans (by simp)
          clear HD
          go_wp2_with fail
          go_ret
          exact ⟨by first | rfl | (simp; done) | (simp [*]; done), HB.out⟩
        | true =>
          go_wp2_with fail
          refine (C3.out _).mono ?_
          rintro r w1 ⟨rfl, hw⟩
          obtain rfl := hw
          clear C3
          cases n3 with
          | false =>
            obtain rfl : D = false := HD.trans (by simp)
            clear HD
            go_wp2_with fail
            go_ret
            exact ⟨by first | rfl | (simp; done) | (simp [*]; done), HB.out⟩
          | true =>
            go_wp2_with fail
            refine (C4.out _).mono ?_
            rintro r w1 ⟨rfl, hw⟩
            obtain rfl := hw
            clear C4
            cases n4 with
            | false =>
              obtain rfl : D = false := HD.trans (by simp)
              clear HD
              go_wp2_with fail
              go_ret
              exact ⟨by first | rfl | (simp; done) | (simp [*]; done), HB.out⟩
            | true =>
              have m0 : (0 : Int) ≤ (m : Int) := Int.natCast_nonneg m
              by_cases m1 : 1 ≤ m
              · by_cases m2 : m ≤ 900
                · obtain rfl : D = true := HD.trans (by simp [m1, m2])
                  have m3 : (1 : Int) ≤ (m : Int) := by omega
                  have m4 : (m : Int) ≤ 900 := by omega
                  clear HD
                  go_wp2_with fail
                  go_ret
                  exact ⟨by first | rfl | (simp; done) | (simp [*]; done), HB.out⟩
                · obtain rfl : D = false := HD.trans (by simp [m2])
                  have m3 : (1 : Int) ≤ (m : Int) := by omega
                  have m4 : ¬ (m : Int) ≤ 900 := by omega
                  clear HD
                  go_wp2_with fail
                  go_ret
                  exact ⟨by first | rfl | (simp; done) | (simp [*]; done), HB.out⟩
              · obtain rfl : D = false := HD.trans (by simp [m1])
                have m3 : ¬ (1 : Int) ≤ (m : Int) := by omega
                clear HD
                go_wp2_with fail
                go_ret
                exact ⟨by first | rfl | (simp; done) | (simp [*]; done), HB.out⟩
  · have d1 : (k == 1) = false := beq_eq_false_iff_ne.2 k1
    have d2 : (k == 2) = false := beq_eq_false_iff_ne.2 k2
    obtain rfl : D = false := HD.trans (by rw [decide_eq_false (show ¬ (k = 1 ∨ k = 2) by omega)]; simp)
    clear HD C0 C1 C2 C3 C4 k1 k2
    go_enter Try.func24, Try.ntmps24
    go_upto_region 1 with (fail)
    rw [← HV.out]
    clear HV
    go_wp2_with fail
    go_ret
    exact ⟨by first | rfl | (simp; done) | (simp [*]; done), HB.out⟩
set_option maxRecDepth 100000 in
set_option maxHeartbeats 4000000 in
theorem right0_any (x : We) (e : Ev) (W : World) : Calls Try.prog 16 #[.agg (envC x e)] W fun r W' => r = .returned (.bool (decide (RightE e))) ∧ Below W.heap.size W W' := by
  obtain ⟨V, C, hC, hV, hb, hg⟩ := bxE1 W x e
  have HB := Lib.hid hb
  have HV := Lib.hid hV
  have HG := Lib.hid hg
  have CM := Lib.hid (fun w => may_any x e w)
  obtain ⟨D, hD⟩ : ∃ D, D = decide (RightE e) := ⟨_, rfl⟩
  rw [← hC, ← hD]
  have HDE := Lib.hid (show D = (decide (PartsE e) && decide (e.tag.length = 16)) from by
    rw [hD, Bool.eq_iff_iff]
    simp only [Bool.and_eq_true, decide_eq_true_eq]
    exact Iff.rfl)
  have HX := Lib.hid (fun w (h : BxE w W.heap.size x e) => show w.cell? ⟨W.heap.size, 7, none⟩ = some (.slice x.tag.1 e.tag.length x.tag.2) from h.cell rfl)
  obtain ⟨m, hm⟩ : ∃ m, m = e.tag.length := ⟨_, rfl⟩
  rw [← hm] at HX HDE
  generalize decide (PartsE e) = p at *
  have HD := HDE.out
  clear hC hV hb hg hD HDE hm
  go_enter Try.func16, Try.ntmps16
  go_upto_region 1 with (fail)
  rw [← HV.out]
  clear HV
  go_wp2_with (refine loadX (.tmp 1) W.heap.size _ tyEnv rfl HG.out rfl rfl rfl ?_)
  refine (CM.out _).mono ?_
  rintro r w1 ⟨rfl, hb⟩
  have x7 := HX.out _ (HG.out.go hb)
  have HB1 := Lib.hid (belG HB.out hb HB.out.size)
  clear hb HB HX HG CM
  cases p with
  | false =>
    obtain rfl : D = false := HD.trans (by simp)
    clear HD
    go_wp2_with fail
    go_ret
    exact ⟨by first | rfl | (simp; done), HB1.out⟩
  | true =>
    by_cases h : m = 16
    · obtain rfl : D = true := HD.trans (by simp [h])
      subst h
      clear HD
      go_wp2_with fail
      go_ret
      exact ⟨by first | rfl | (simp; done), HB1.out⟩
    · have h2 : ((m : Int) == 16) = false := beq_eq_false_iff_ne.2 (by omega)
      obtain rfl : D = false := HD.trans (by simp [h])
      clear HD
      go_wp2_with fail
      go_ret
      exact ⟨by first | rfl | (simp; done) | (simp [*]; done), HB1.out⟩
set_option maxRecDepth 100000 in
theorem eqItems_g (d : Nat) (W : World) (te : TypeId) (hp : Try.prog.plainKey te = true) (hc : Try.prog.cellsOf te = 1) (xs ys : Array Value) (p : Nat → Bool) : ∀ l : List Nat, (∀ j ∈ l, ∃ a b, xs[j]? = some a ∧ ys[j]? = some b ∧ (Op.equalIn (d + 1) te a b).run Try.prog W = .ok (p j) W) → (Op.eqItems (d + 1) te (Try.prog.cellsOf te) xs ys l).run Try.prog W = .ok (l.all p) W
  | [], _ => by simp [Op.eqItems]
  | j :: l, h => by
    obtain ⟨a, b, ha, hb, he⟩ := h j (by simp)
    have h1 := run_part_plain W (P := Try.prog) hp (xs := xs) (off := j) ha
    have h2 := run_part_plain W (P := Try.prog) hp (xs := ys) (off := j) hb
    have ih := eqItems_g d W te hp hc xs ys p l (fun k hk => h k (by simp [hk]))
    rw [hc] at ih ⊢
    simp only [Op.eqItems, Nat.mul_one, Sem.run_bind, h1, h2, he, Result.andThen_ok]
    cases hj : p j
    · simp [hj]
    · simp [hj, ih]
set_option maxRecDepth 100000 in
theorem run_eql2 (W : World) (a b c d : Int) : (binOp .eql 22 (.agg #[.int .i64 a, .int .i64 b]) (.agg #[.int .i64 c, .int .i64 d])).run Try.prog W = .ok (.bool (decide (a = c) && decide (b = d))) W := by
  rw [run_eql_struct]
  obtain ⟨i, hi⟩ : ∃ i, Try.prog.info? 3 = some i := ⟨_, rfl⟩
  have h5 := run_equalIn_array (P := Try.prog) W 9999 #[.int .i64 a, .int .i64 b] #[.int .i64 c, .int .i64 d] Try.underlying22 hi
  rw [h5, eqItems_g 9998 W 3 (by kernel_rfl) (by kernel_rfl) _ _ (fun j => if j = 0 then decide (a = c) else decide (b = d)) _ (fun j hj => by
    have hj := List.mem_range.1 hj
    rcases (show j = 0 ∨ j = 1 by omega) with rfl | rfl
    · exact ⟨_, _, rfl, rfl, run_equalIn_int W 9998 3 .i64 .i64 _ _ Try.underlying3⟩
    · exact ⟨_, _, rfl, rfl, run_equalIn_int W 9998 3 .i64 .i64 _ _ Try.underlying3⟩)]
  show Result.ok (Value.bool (decide (a = c) && (decide (b = d) && true))) W = _
  rw [Bool.and_true]
set_option maxRecDepth 100000 in
theorem tyE2 : Ty 22 2 := ⟨⟨_, Try.underlying22, rfl⟩, by kernel_rfl⟩
set_option maxRecDepth 100000 in
theorem partE2 (x : We) (e : Ev) : Part (envC x e) 2 #[.int .i64 e.e0, .int .i64 e.e1] := by
  intro j v h
  match j, h with
  | 0, h => exact h
  | 1, h => exact h
set_option maxRecDepth 100000 in
set_option maxHeartbeats 4000000 in
theorem same0_any (x y : We) (a b : Ev) (W : World) (hx : EnvR W x a) (hy : EnvR W y b) : Calls Try.prog 18 #[.agg (envC x a), .agg (envC y b)] W fun r W' => r = .returned (.bool (decide (a = b))) ∧ Below W.heap.size W W' := by
  obtain ⟨V, C, D, hC, hD, hV, hb, k1, k2, -⟩ := bxE2 W x y a b
  have CB := Lib.hid (equalE_any x.body y.body a.body b.body V (hx.go hb).1 (hy.go hb).1)
  have CT := Lib.hid (equalE_any x.tag y.tag a.tag b.tag V (hx.go hb).2 (hy.go hb).2)
  have GX := Lib.hid (show Bx V W.heap.size 25 C from by rw [hC]; exact k1)
  have GY := Lib.hid (show Bx V (W.heap.size + 1) 25 D from by rw [hD]; exact k2)
  have PX := Lib.hid (partE2 x a)
  have PY := Lib.hid (partE2 y b)
  rw [← hC, ← hD]
  rw [← hC] at PX
  rw [← hD] at PY
  have x0 : V.cell? ⟨W.heap.size, 0, none⟩ = some (.int .i64 a.kind) := k1.cell rfl
  have y0 : V.cell? ⟨W.heap.size + 1, 0, none⟩ = some (.int .i64 b.kind) := k2.cell rfl
  have x1 : V.cell? ⟨W.heap.size, 1, none⟩ = some (.int .i64 a.dir) := k1.cell rfl
  have y1 : V.cell? ⟨W.heap.size + 1, 1, none⟩ = some (.int .i64 b.dir) := k2.cell rfl
  have x2 : V.cell? ⟨W.heap.size, 2, none⟩ = some (.int .i64 a.e0) := k1.cell rfl
  have y2 : V.cell? ⟨W.heap.size + 1, 2, none⟩ = some (.int .i64 b.e0) := k2.cell rfl
  have x3 : V.cell? ⟨W.heap.size, 3, none⟩ = some (.int .i64 a.e1) := k1.cell rfl
  have y3 : V.cell? ⟨W.heap.size + 1, 3, none⟩ = some (.int .i64 b.e1) := k2.cell rfl
  have x4 : V.cell? ⟨W.heap.size, 4, none⟩ = some (.int .i64 a.gen) := k1.cell rfl
  have y4 : V.cell? ⟨W.heap.size + 1, 4, none⟩ = some (.int .i64 b.gen) := k2.cell rfl
  have x5 : V.cell? ⟨W.heap.size, 5, none⟩ = some (.int .i64 a.seq) := k1.cell rfl
  have y5 : V.cell? ⟨W.heap.size + 1, 5, none⟩ = some (.int .i64 b.seq) := k2.cell rfl
  have x6 : V.cell? ⟨W.heap.size, 6, none⟩ = some (.slice x.body.1 a.body.length x.body.2) := k1.cell rfl
  have y6 : V.cell? ⟨W.heap.size + 1, 6, none⟩ = some (.slice y.body.1 b.body.length y.body.2) := k2.cell rfl
  have x7 : V.cell? ⟨W.heap.size, 7, none⟩ = some (.slice x.tag.1 a.tag.length x.tag.2) := k1.cell rfl
  have y7 : V.cell? ⟨W.heap.size + 1, 7, none⟩ = some (.slice y.tag.1 b.tag.length y.tag.2) := k2.cell rfl
  have HB := Lib.hid hb
  have HV := Lib.hid hV
  obtain ⟨R, hR⟩ : ∃ R, R = decide (a = b) := ⟨_, rfl⟩
  rw [← hR]
  have HR := Lib.hid (show R = (decide (a.kind = b.kind) && decide (a.dir = b.dir) && (decide (a.e0 = b.e0) && decide (a.e1 = b.e1)) && decide (a.gen = b.gen) && decide (a.seq = b.seq) && decide (a.body = b.body) && decide (a.tag = b.tag)) from by
    rw [hR, Bool.eq_iff_iff]
    simp only [Bool.and_eq_true, decide_eq_true_eq]
    exact ⟨fun e => by subst e; exact ⟨⟨⟨⟨⟨⟨rfl, rfl⟩, rfl, rfl⟩, rfl⟩, rfl⟩, rfl⟩, rfl⟩, fun h => Ev.ext' h.1.1.1.1.1.1 h.1.1.1.1.1.2 h.1.1.1.1.2.1 h.1.1.1.1.2.2 h.1.1.1.2 h.1.1.2 h.1.2 h.2⟩)
  have heq := fun w => run_eql2 w a.e0 a.e1 b.e0 b.e1
  generalize (decide (a.e0 = b.e0) && decide (a.e1 = b.e1)) = ee at *
  generalize decide (a.body = b.body) = p at *
  generalize decide (a.tag = b.tag) = q at *
  generalize a.body.length = n1 at *
  generalize b.body.length = m1 at *
  generalize a.tag.length = n2 at *
  generalize b.tag.length = m2 at *
  generalize a.kind = s0 at *
  generalize b.kind = t0 at *
  generalize a.dir = s1 at *
  generalize b.dir = t1 at *
  generalize a.e0 = s2 at *
  generalize b.e0 = t2 at *
  generalize a.e1 = s3 at *
  generalize b.e1 = t3 at *
  generalize a.gen = s4 at *
  generalize b.gen = t4 at *
  generalize a.seq = s5 at *
  generalize b.seq = t5 at *
  clear hC hD hV hb k1 k2 hR hx hy x2 x3 y2 y3
  have HD := HR.out
  clear HR
  go_enter Try.func18, Try.ntmps18
  go_upto_region 1 with (fail)
  rw [← HV.out]
  clear HV
  by_cases c0 : s0 = t0
  · subst c0
    by_cases c1 : s1 = t1
    · subst c1
      cases ee with
      | false =>
        obtain rfl : R = false := HD.trans (by simp)
        clear HD
        go_wp2_with (first | refine loadPx (.tmp 18) W.heap.size 2 _ _ tyE2 rfl PX.out GX.out rfl rfl rfl ?_ | refine loadPx (.tmp 20) (W.heap.size + 1) 2 _ _ tyE2 rfl PY.out GY.out rfl rfl rfl ?_)
        go_ret
        exact ⟨by first | rfl | (simp; done) | (simp [*]; done), HB.out⟩
      | true =>
        by_cases c4 : s4 = t4
        · subst c4
          by_cases c5 : s5 = t5
          · subst c5
            go_wp2_with (first | refine loadPx (.tmp 18) W.heap.size 2 _ _ tyE2 rfl PX.out GX.out rfl rfl rfl ?_ | refine loadPx (.tmp 20) (W.heap.size + 1) 2 _ _ tyE2 rfl PY.out GY.out rfl rfl rfl ?_)
            refine CB.out.mono ?_
            rintro r w1 ⟨rfl, hw⟩
            obtain rfl := hw
            cases p with
            | false =>
              obtain rfl : R = false := HD.trans (by simp)
              clear HD
              go_wp2_with fail
              go_ret
              exact ⟨by first | rfl | (simp; done) | (simp [*]; done), HB.out⟩
            | true =>
              obtain rfl : R = q := HD.trans (by simp)
              clear HD
              go_wp2_with fail
              refine CT.out.mono ?_
              rintro r w1 ⟨rfl, hw⟩
              obtain rfl := hw
              go_wp2_with fail
              go_ret
              exact ⟨by first | rfl | (simp; done) | (simp [*]; done), HB.out⟩
          · have d5 : (s5 == t5) = false := beq_eq_false_iff_ne.2 c5
            obtain rfl : R = false := HD.trans (by rw [decide_eq_false c5]; simp)
            clear HD
            go_wp2_with (first | refine loadPx (.tmp 18) W.heap.size 2 _ _ tyE2 rfl PX.out GX.out rfl rfl rfl ?_ | refine loadPx (.tmp 20) (W.heap.size + 1) 2 _ _ tyE2 rfl PY.out GY.out rfl rfl rfl ?_)
            go_ret
            exact ⟨by first | rfl | (simp; done) | (simp [*]; done), HB.out⟩
        · have d4 : (s4 == t4) = false := beq_eq_false_iff_ne.2 c4
          obtain rfl : R = false := HD.trans (by rw [decide_eq_false c4]; simp)
          clear HD
          go_wp2_with (first | refine loadPx (.tmp 18) W.heap.size 2 _ _ tyE2 rfl PX.out GX.out rfl rfl rfl ?_ | refine loadPx (.tmp 20) (W.heap.size + 1) 2 _ _ tyE2 rfl PY.out GY.out rfl rfl rfl ?_)
          go_ret
          exact ⟨by first | rfl | (simp; done) | (simp [*]; done), HB.out⟩
    · have d1 : (s1 == t1) = false := beq_eq_false_iff_ne.2 c1
      obtain rfl : R = false := HD.trans (by rw [decide_eq_false c1]; simp)
      clear HD
      go_wp2_with fail
      go_ret
      exact ⟨by first | rfl | (simp; done) | (simp [*]; done), HB.out⟩
  · have d0 : (s0 == t0) = false := beq_eq_false_iff_ne.2 c0
    obtain rfl : R = false := HD.trans (by rw [decide_eq_false c0]; simp)
    clear HD
    go_wp2_with fail
    go_ret
    exact ⟨by first | rfl | (simp; done) | (simp [*]; done), HB.out⟩
end Go.Proofs.Ytjkkceecagbjjaa
/- Package env: each, along, and its closure. -/

namespace Go.Proofs.Ytjkkceecagbjjaa
open Go.RowKit

/-- what a call may not turn: of the blocks from B on, those that hold no bytes -/
structure Kp (B : Nat) (w w' : World) : Prop where
  size : w.heap.size ≤ w'.heap.size
  keep : ∀ i C T, B ≤ i → T ≠ 5 → Bx w i T C → Bx w' i T C
set_option maxRecDepth 100000 in
theorem Kp.refl (B : Nat) (w : World) : Kp B w w := ⟨Nat.le_refl _, fun _ _ _ _ _ h => h⟩
set_option maxRecDepth 100000 in
theorem Kp.trans {B : Nat} {a b c : World} (h : Kp B a b) (k : Kp B b c) : Kp B a c := ⟨Nat.le_trans h.size k.size, fun i C T h1 h2 h3 => k.keep i C T h1 h2 (h.keep i C T h1 h2 h3)⟩
set_option maxRecDepth 100000 in
theorem Kp.below {B : Nat} {w w' : World} (h : Below w.heap.size w w') : Kp B w w' := ⟨h.size, fun _ _ _ _ _ h3 => h3.go h⟩
set_option maxRecDepth 100000 in
theorem Kp.set {B g o : Nat} {w : World} {v : Value} (hg : g < B) : Kp B w (w.setCell ⟨g, o, none⟩ v) := ⟨by simp [World.setCell], fun _ _ _ h1 _ h3 => h3.setOther (by omega) _ _⟩
set_option maxRecDepth 100000 in
theorem Kp.grown {B base : Nat} {w w' : World} {v : Value} {l : List UInt8} (h : Ow w base v l) (hg : w.grownBy w' v.ownBlock) : Kp B w w' := by
  refine ⟨hg.size, fun i C T _ h2 h3 => ?_⟩
  refine (hg.block i h3.lt (fun e => ?_)).trans h3
  rcases h.2 with ⟨rfl, _⟩ | ⟨g, cap, cur, rfl, _, hc, _⟩
  · simp [Value.ownBlock] at e
  · simp only [Value.ownBlock, Option.some.injEq] at e
    subst e
    have h4 := h3.symm.trans hc
    simp only [Option.some.injEq, Obj.cells.injEq] at h4
    exact h2 h4.2.1
/-- what each turns by itself: blocks from B on that hold no bytes -/
structure Sd (B : Nat) (w w' : World) : Prop where
  os : w'.os = w.os
  tape : w'.tape = w.tape
  output : w'.output = w.output
  size : w.heap.size ≤ w'.heap.size
  block : ∀ i, i < w.heap.size → (i < B ∨ ∃ C, w.heap[i]? = some (.cells C 5 (0, 0))) → w'.heap[i]? = w.heap[i]?
set_option maxRecDepth 100000 in
theorem Sd.of {B : Nat} {w w' : World} (h : Below w.heap.size w w') : Sd B w w' := ⟨h.os, h.tape, h.output, h.size, fun i hi _ => h.block i hi⟩
set_option maxRecDepth 100000 in
theorem Sd.set {B g o : Nat} {w : World} {T : TypeId} {C : Array Value} {v : Value} (hg : B ≤ g) (hb : Bx w g T C) (ht : T ≠ 5) : Sd B w (w.setCell ⟨g, o, none⟩ v) := by
  refine ⟨rfl, rfl, rfl, by simp [World.setCell], fun i _ h => heap_setCell_other w ⟨g, o, none⟩ i v ?_⟩
  rintro rfl
  rcases h with h | ⟨D, h⟩
  · exact absurd hg (Nat.not_le.2 h)
  · have h4 := hb.symm.trans h
    simp only [Option.some.injEq, Obj.cells.injEq] at h4
    exact ht h4.2.1
set_option maxRecDepth 100000 in
theorem Sd.bel {B B0 : Nat} {a w w' : World} (h : Below B0 a w) (hB : B0 ≤ B) (hs : B0 ≤ w.heap.size) (k : Sd B w w') : Below B0 a w' := h.trans ⟨k.os, k.tape, k.output, k.size, fun i hi => k.block i (by omega) (.inl (by omega))⟩
set_option maxRecDepth 100000 in
theorem Sd.bx {B g : Nat} {w w' : World} {T : TypeId} {C : Array Value} (h : Bx w g T C) (hg : g < B) (k : Sd B w w') : Bx w' g T C := (k.block g h.lt (.inl hg)).trans h
set_option maxRecDepth 100000 in
theorem Sd.ow {B base : Nat} {w w' : World} {v : Value} {l : List UInt8} (h : Ow w base v l) (k : Sd B w w') : Ow w' base v l := by
  refine ⟨h.1, ?_⟩
  rcases h.2 with h0 | ⟨g, cap, cur, e, hbg, hg, hr⟩
  · exact .inl h0
  · exact .inr ⟨g, cap, cur, e, hbg, (k.block g (Array.getElem?_eq_some_iff.1 hg).1 (.inr ⟨_, hg⟩)).trans hg, hr⟩
set_option maxRecDepth 100000 in
/-- bytes of the call's own, where a box that holds no bytes changes -/
theorem Ow.setE {w : World} {base g o : Nat} {v u : Value} {l : List UInt8} {C : Array Value} {T : TypeId} (h : Ow w base v l) (hg : Bx w g T C) (ht : T ≠ 5) : Ow (w.setCell ⟨g, o, none⟩ u) base v l := Sd.ow h (Sd.set (B := 0) (Nat.zero_le _) hg ht)
def wdE (k : Nat) : Nat := [1, 1, 8, 8, 4, 8].getD k 0
/-- the widths that are left behind k of them -/
def wsl (g k : Nat) : Value := if k < 6 then .slice (some ⟨g, k, none⟩) (6 - k) (6 - k) else .slice (some ⟨g, 5, none⟩) 0 0
def widthsC : Array Value := #[.int .i64 1, .int .i64 1, .int .i64 8, .int .i64 8, .int .i64 4, .int .i64 8]
/-- a closure that takes the numbers one behind the other: what it is called with, what holds behind each call -/
def OneOk (f : FuncId) (caps : Array Value) (B g : Nat) (P : Nat → World → Prop) : Prop :=
  ∀ k, k < 6 → ∀ w, B ≤ w.heap.size → P k w → Calls Try.prog f (#[.pointer (some ⟨g, k, none⟩), .int .i64 (wdE k : Nat)] ++ caps) w fun e w' => (∃ v, e = .returned v) ∧ P (k + 1) w' ∧ Kp B w w'
set_option maxRecDepth 100000 in
theorem along_any (one sl : Value) (w : World) (h1 : one.oneCell' = true) (h2 : sl.oneCell' = true) :
    Calls Try.prog 37 #[one, sl] w fun e w' => e = .returned (.func (.func 41) #[] #[.pointer (some ⟨w.heap.size, 0, none⟩), .pointer (some ⟨w.heap.size + 1, 0, none⟩)]) ∧ w' = (w.alloc (.cells #[one] 50)).alloc (.cells #[sl] 67) := by
  go_enter Try.func37, Try.ntmps37
  go_wp2
  go_ret
  exact ⟨rfl, rfl⟩
/-- the boxes of each: the closure's, the widths left, the widths -/
structure Bxs (w : World) (f : FuncId) (caps : Array Value) (g0 g1 k : Nat) : Prop where
  one : Bx w g1 50 #[.func (.func f) #[] caps]
  left : Bx w (g1 + 1) 67 #[wsl g0 k]
  row : Bx w g0 3 widthsC
set_option maxRecDepth 100000 in
set_option maxHeartbeats 1000000 in
theorem along1_any (f : FuncId) (hf : f = 26 ∨ f = 31) (caps : Array Value) (B g g0 g1 : Nat) (P : Nat → World → Prop) (hst : ∀ k w w', P k w → Sd B w w' → P k w') (H : OneOk f caps B g P)
    (k : Nat) (hk : k < 6) (w : World) (hB : B ≤ w.heap.size) (hg0 : B ≤ g0) (hg1 : B ≤ g1) (hb : Bxs w f caps g0 g1 k) (hP : P k w) :
    Calls Try.prog 41 #[.pointer (some ⟨g, k, none⟩), .pointer (some ⟨g1, 0, none⟩), .pointer (some ⟨g1 + 1, 0, none⟩)] w fun e w' => (∃ v, e = .returned v) ∧ P (k + 1) w' ∧ Bxs w' f caps g0 g1 (k + 1) ∧ w.heap.size ≤ w'.heap.size ∧ (∀ i C T, B ≤ i → i ≠ g1 + 1 → T ≠ 5 → Bx w i T C → Bx w' i T C) := by
  have HC := Lib.hid (fun w h1 h2 => H k hk w h1 h2)
  have HST := Lib.hid hst
  have HBX := Lib.hid hb
  have HP := Lib.hid (fun w' (h : Sd B w w') => hst k w w' hP h)
  have c1 : w.cell? ⟨g1, 0, none⟩ = some (.func (.func f) #[] caps) := hb.one.cell rfl
  have c2 : w.cell? ⟨g1 + 1, 0, none⟩ = some (wsl g0 k) := hb.left.cell rfl
  have HBB := Lib.hid hB
  have HG0 := Lib.hid hg0
  have HG1 := Lib.hid hg1
  have c3 : w.cell? ⟨g0, k, none⟩ = some (.int .i64 (wdE k : Nat)) := hb.row.cell (by match k, hk with | 0, _ => rfl | 1, _ => rfl | 2, _ => rfl | 3, _ => rfl | 4, _ => rfl | 5, _ => rfl | k + 6, h => omega)
  clear hst H hb hP hB hg0 hg1
  rcases (show k = 0 ∨ k = 1 ∨ k = 2 ∨ k = 3 ∨ k = 4 ∨ k = 5 by omega) with rfl | rfl | rfl | rfl | rfl | rfl
  all_goals
    clear hk
    simp only [wsl, wdE, List.getD_cons_zero, List.getD_cons_succ] at c2 c3
    simp (config := { decide := true }) only [if_true] at c2
    rcases hf with rfl | rfl
    all_goals
      go_enter Try.func41, Try.ntmps41
      go_wp2_with fail
      go_still_tail 5, (by kernel_rfl)
      have HBX1 := Lib.hid (show Bxs w.drew _ caps g0 g1 _ from ⟨HBX.out.one.drew, HBX.out.left.drew, HBX.out.row.drew⟩)
      have HP1 := Lib.hid (HP.out w.drew (Sd.of (Below.refl _ _).drew))
      have HBD := Lib.hid (show B ≤ w.drew.heap.size from HBB.out)
      have HSZ := Lib.hid (show w.heap.size ≤ w.drew.heap.size from Nat.le_refl _)
      have HKX := Lib.hid (show ∀ i C T, Bx w i T C → Bx w.drew i T C from fun i C T h => h.drew)
      change wpList _ _ _ _ _ w.drew
      generalize w.drew = wd at *
      clear c1 c2 c3 HBX HP HBB
      go_wp2_with fail
      refine (HC.out _ HBD.out HP1.out).mono ?_
      rintro e w2 ⟨⟨v, rfl⟩, hp, hk⟩
      have HP2 := Lib.hid hp
      have HK2 := Lib.hid hk
      have hl := hk.keep _ _ _ (Nat.le_trans HG1.out (Nat.le_succ _)) (by decide) HBX1.out.left
      have HL := Lib.hid hl
      have d1 := Bx.cell hl (j := 0) rfl
      have d2 := hl.thaw 0
      simp only [wsl] at d1
      simp (config := { decide := true }) only [if_true] at d1
      clear hp hk hl HC
      go_wp2_with fail
      go_end0
      have hlt : B ≤ g1 + 1 := Nat.le_trans HG1.out (Nat.le_succ _)
      have hk := HK2.out
      have hx := HBX1.out
      refine ⟨⟨_, rfl⟩, HST.out _ _ _ HP2.out (Sd.set hlt HL.out (by decide)), ⟨?_, ?_, ?_⟩, ?_, ?_⟩
      · exact (hk.keep _ _ _ HG1.out (by decide) hx.one).setOther (by omega) _ _
      · exact HL.out.set rfl
      · have hr := hk.keep _ _ _ HG0.out (by decide) hx.row
        exact hr.setOther (Bx.ne hr HL.out (by decide)) _ _
      · exact Nat.le_trans HSZ.out (Nat.le_trans hk.size (by simp [World.setCell]))
      · intro i C T h1 h2 h3 h4
        exact (hk.keep _ _ _ h1 h3 (HKX.out _ _ _ h4)).setOther h2 _ _
end Go.Proofs.Ytjkkceecagbjjaa
