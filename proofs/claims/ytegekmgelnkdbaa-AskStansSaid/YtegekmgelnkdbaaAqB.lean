
/- Questions in memory; the document's answers (ask). -/
import Derived.Test.YtegekmgelnkdbaaAqA
import Derived.Test.YtegekmgelnkdbaaKey
import Derived.Test.YtegekmgelnkdbaaVal
namespace Go.Proofs.Ytegekmgelnkdbaa
open Go.RowKit

def askC (x : Wkb) (a : Aq) : Array Value := #[.int .i64 a.code, .int .i64 a.stan, .int .i64 a.due, .int .i64 a.left, .slice x.1 a.body.length x.2]
set_option maxRecDepth 100000 in
theorem askC_one (x : Wkb) (a : Aq) : (askC x a).all (·.oneCell') = true := by simp [askC, Value.oneCell']
set_option maxRecDepth 100000 in
theorem tyAsk : Ty 24 5 := ⟨⟨_, Try.underlying24, rfl⟩, by kernel_rfl⟩
abbrev AqR (w : World) (x : Wkb) (a : Aq) : Prop := KeyB w x a.body
abbrev BxQ (w : World) (g : Nat) (x : Wkb) (a : Aq) : Prop := Bx w g 24 (askC x a)
set_option maxRecDepth 100000 in
theorem no8_ask (x : Wkb) (a : Aq) : No8 (askC x a) := by
  intro v hv n
  simp only [askC, List.mem_cons, List.not_mem_nil, or_false] at hv
  rcases hv with rfl | rfl | rfl | rfl | rfl <;> intro h <;> cases h
set_option maxRecDepth 100000 in
theorem bxQ1 (W : World) (x : Wkb) (a : Aq) : ∃ V C, C = askC x a ∧ V = W.alloc (.cells C 24) ∧ Below W.heap.size W V ∧ BxQ V W.heap.size x a := by
  obtain ⟨V, h1, h2, h3⟩ := bx1 W 24 (askC x a)
  exact ⟨V, _, rfl, h1, h2, h3⟩
set_option maxRecDepth 100000 in
theorem bxQ2 (W : World) (x y : Wkb) (r s : Aq) : ∃ V C D, C = askC x r ∧ D = askC y s ∧ V = (W.alloc (.cells C 24)).alloc (.cells D 24) ∧ Below W.heap.size W V ∧ BxQ V W.heap.size x r ∧ BxQ V (W.heap.size + 1) y s ∧ V.heap.size = W.heap.size + 2 := by
  obtain ⟨V, h1, h2, h3, h4, h5⟩ := bx2 W 24 24 (askC x r) (askC y s)
  exact ⟨V, _, _, rfl, rfl, h1, h2, h3, h4, h5⟩
def wq0 : Wkb := (none, 0)
/-- a call's answer: a question, and what goes with it -/
def AnsAq (W' : World) (e : Ending) (r : Aq) (u : List Value) : Prop := ∃ y, e = .returned (.tuple ((.agg (askC y r) :: u).toArray)) ∧ AqR W' y r
set_option maxRecDepth 100000 in
theorem sameQ_any (x y : Wkb) (l k : List UInt8) (W : World) (hx : KeyB W x l) (hy : KeyB W y k) : Calls Try.prog 24 #[.slice x.1 l.length x.2, .slice y.1 k.length y.2] W fun e W' => e = .returned (.bool (decide (l = k))) ∧ W = W' := same_any x.1 y.1 l k x.2 y.2 _ _ W hx.2.2 hy.2.2
set_option maxRecDepth 100000 in
theorem stan15_any (n : Int) (W : World) : Calls Try.prog 14 #[.int .i64 n] W fun e W' => e = .returned (.int .i64 (stanA n)) ∧ W = W' := by
  by_cases h0 : n < 0
  · rw [show stanA n = 1 from by unfold stanA; rw [if_neg (by omega)]]
    go_enter Try.func14, Try.ntmps14
    go_wp2
    go_ret
    exact ⟨by first | rfl | (simp; done), by first | rfl | trivial⟩
  by_cases h1 : 999998 < n
  · rw [show stanA n = 1 from by unfold stanA; rw [if_neg (by omega)]]
    go_enter Try.func14, Try.ntmps14
    go_wp2
    go_ret
    exact ⟨by first | rfl | (simp; done), by first | rfl | trivial⟩
  rw [show stanA n = n + 1 from by unfold stanA; rw [if_pos (by omega)]]
  go_enter Try.func14, Try.ntmps14
  go_wp2
  go_ret
  exact ⟨by first | rfl | (simp; done), by first | rfl | trivial⟩
set_option maxRecDepth 100000 in
theorem known15_any (c : Int) (W : World) : Calls Try.prog 16 #[.int .i64 c] W fun e W' => e = .returned (.bool (knownA c)) ∧ W = W' := by
  rcases (show c = 1 ∨ c = 2 ∨ c = 101 ∨ c = 201 ∨ c = 301 ∨ (c ≠ 1 ∧ c ≠ 2 ∧ c ≠ 101 ∧ c ≠ 201 ∧ c ≠ 301) by omega) with rfl | rfl | rfl | rfl | rfl | ⟨h1, h2, h3, h4, h5⟩
  · rw [show knownA 1 = true from rfl]
    go_enter Try.func16, Try.ntmps16
    go_wp2
    go_ret
    exact ⟨by first | rfl | (simp; done), by first | rfl | trivial⟩
  · rw [show knownA 2 = true from rfl]
    go_enter Try.func16, Try.ntmps16
    go_wp2
    go_ret
    exact ⟨by first | rfl | (simp; done), by first | rfl | trivial⟩
  · rw [show knownA 101 = true from rfl]
    go_enter Try.func16, Try.ntmps16
    go_wp2
    go_ret
    exact ⟨by first | rfl | (simp; done), by first | rfl | trivial⟩
  · rw [show knownA 201 = true from rfl]
    go_enter Try.func16, Try.ntmps16
    go_wp2
    go_ret
    exact ⟨by first | rfl | (simp; done), by first | rfl | trivial⟩
  · rw [show knownA 301 = true from rfl]
    go_enter Try.func16, Try.ntmps16
    go_wp2
    go_ret
    exact ⟨by first | rfl | (simp; done), by first | rfl | trivial⟩
  · rw [show knownA c = false from decide_eq_false (by omega)]
    have d1 : (c == 1) = false := beq_eq_false_iff_ne.2 h1
    have d2 : (c == 2) = false := beq_eq_false_iff_ne.2 h2
    have d3 : (c == 101) = false := beq_eq_false_iff_ne.2 h3
    have d4 : (c == 201) = false := beq_eq_false_iff_ne.2 h4
    have d5 : (c == 301) = false := beq_eq_false_iff_ne.2 h5
    clear h1 h2 h3 h4 h5
    go_enter Try.func16, Try.ntmps16
    go_wp2
    go_ret
    exact ⟨by first | rfl | (simp; done), by first | rfl | trivial⟩
set_option maxRecDepth 100000 in
set_option maxHeartbeats 1000000 in
theorem none15_any (x : Wkb) (a : Aq) (W : World) : Calls Try.prog 23 #[.agg (askC x a)] W fun e W' => e = .returned (.bool (decide (NoneA a))) ∧ Below W.heap.size W W' := by
  obtain ⟨V, C, hC, hV, hb, hg⟩ := bxQ1 W x a
  have HB := Lib.hid hb
  have HV := Lib.hid hV
  have x0 : V.cell? ⟨W.heap.size, 0, none⟩ = some (.int .i64 a.code) := hg.cell rfl
  have x1 : V.cell? ⟨W.heap.size, 1, none⟩ = some (.int .i64 a.stan) := hg.cell rfl
  have x2 : V.cell? ⟨W.heap.size, 2, none⟩ = some (.int .i64 a.due) := hg.cell rfl
  have x3 : V.cell? ⟨W.heap.size, 3, none⟩ = some (.int .i64 a.left) := hg.cell rfl
  have x4 : V.cell? ⟨W.heap.size, 4, none⟩ = some (.slice x.1 a.body.length x.2) := hg.cell rfl
  rw [← hC]
  obtain ⟨D, hD⟩ : ∃ D, D = decide (NoneA a) := ⟨_, rfl⟩
  rw [← hD]
  have HD := Lib.hid (show D = true ↔ (a.code = 0 ∧ a.stan = 0 ∧ a.due = 0 ∧ a.left = 0 ∧ a.body.length = 0) from by rw [hD, decide_eq_true_iff]; exact Iff.rfl)
  have HF := Lib.hid (show ¬ (a.code = 0 ∧ a.stan = 0 ∧ a.due = 0 ∧ a.left = 0 ∧ a.body.length = 0) → D = false from fun h => by
    cases D with
    | false => rfl
    | true => exact absurd (HD.out.1 rfl) h)
  generalize a.code = n0 at *
  generalize a.stan = n1 at *
  generalize a.due = n2 at *
  generalize a.left = n3 at *
  generalize a.body.length = n4 at *
  clear hC hV hb hg hD
  by_cases c0 : n0 = 0
  · subst c0
    by_cases c1 : n1 = 0
    · subst c1
      by_cases c2 : n2 = 0
      · subst c2
        by_cases c3 : n3 = 0
        · subst c3
          by_cases c4 : n4 = 0
          · subst c4
            obtain rfl : D = true := HD.out.2 ⟨rfl, rfl, rfl, rfl, rfl⟩
            clear HD HF
            go_enter Try.func23, Try.ntmps23
            go_upto_region 1 with (fail)
            rw [← HV.out]
            clear HV
            go_wp2_with fail
            go_ret
            exact ⟨by first | rfl | (simp; done) | (simp [*]; done), HB.out⟩
          · have d4 : ((n4 : Int) == 0) = false := beq_eq_false_iff_ne.2 (by omega)
            obtain rfl : D = false := HF.out (fun h => c4 h.2.2.2.2)
            clear HD HF
            go_enter Try.func23, Try.ntmps23
            go_upto_region 1 with (fail)
            rw [← HV.out]
            clear HV
            go_wp2_with fail
            go_ret
            exact ⟨by first | rfl | (simp; done) | (simp [*]; done), HB.out⟩
        · have d3 : (n3 == 0) = false := beq_eq_false_iff_ne.2 c3
          obtain rfl : D = false := HF.out (fun h => c3 h.2.2.2.1)
          clear HD HF
          go_enter Try.func23, Try.ntmps23
          go_upto_region 1 with (fail)
          rw [← HV.out]
          clear HV
          go_wp2_with fail
          go_ret
          exact ⟨by first | rfl | (simp; done) | (simp [*]; done), HB.out⟩
      · have d2 : (n2 == 0) = false := beq_eq_false_iff_ne.2 c2
        obtain rfl : D = false := HF.out (fun h => c2 h.2.2.1)
        clear HD HF
        go_enter Try.func23, Try.ntmps23
        go_upto_region 1 with (fail)
        rw [← HV.out]
        clear HV
        go_wp2_with fail
        go_ret
        exact ⟨by first | rfl | (simp; done) | (simp [*]; done), HB.out⟩
    · have d1 : (n1 == 0) = false := beq_eq_false_iff_ne.2 c1
      obtain rfl : D = false := HF.out (fun h => c1 h.2.1)
      clear HD HF
      go_enter Try.func23, Try.ntmps23
      go_upto_region 1 with (fail)
      rw [← HV.out]
      clear HV
      go_wp2_with fail
      go_ret
      exact ⟨by first | rfl | (simp; done) | (simp [*]; done), HB.out⟩
  · have d0 : (n0 == 0) = false := beq_eq_false_iff_ne.2 c0
    obtain rfl : D = false := HF.out (fun h => c0 h.1)
    clear HD HF
    go_enter Try.func23, Try.ntmps23
    go_upto_region 1 with (fail)
    rw [← HV.out]
    clear HV
    go_wp2_with fail
    go_ret
    exact ⟨by first | rfl | (simp; done) | (simp [*]; done), HB.out⟩
set_option maxRecDepth 100000 in
set_option maxHeartbeats 1000000 in
theorem fits15_any (c s : Int) (A : Option Addr) (n k : Nat) (W : World) : Calls Try.prog 27 #[.int .i64 c, .int .i64 s, .slice A n k] W fun e W' => e = .returned (.bool (decide (FitsA c s n))) ∧ W = W' := by
  obtain ⟨D, hD⟩ : ∃ D, D = decide (FitsA c s n) := ⟨_, rfl⟩
  rw [← hD]
  have HD := Lib.hid (show D = true ↔ (knownA c = true ∧ 1 ≤ s ∧ s ≤ 999999 ∧ 1 ≤ n ∧ n ≤ 900) from by rw [hD, decide_eq_true_iff]; exact Iff.rfl)
  have HF := Lib.hid (show ¬ (knownA c = true ∧ 1 ≤ s ∧ s ≤ 999999 ∧ 1 ≤ n ∧ n ≤ 900) → D = false from fun h => by
    cases D with
    | false => rfl
    | true => exact absurd (HD.out.1 rfl) h)
  have CK := Lib.hid (fun w => known15_any c w)
  generalize knownA c = kn at *
  have hn0 : (0 : Int) ≤ (n : Int) := Int.natCast_nonneg n
  clear hD
  cases kn with
  | false =>
    obtain rfl : D = false := HF.out (fun h => absurd h.1 (by decide))
    clear HD HF
    go_enter Try.func27, Try.ntmps27
    go_wp2_with fail
    refine (CK.out _).mono ?_
    rintro e w1 ⟨rfl, hw⟩
    obtain rfl := hw
    go_wp2_with fail
    go_ret
    exact ⟨by first | rfl | (simp; done) | (simp [*]; done), by first | rfl | trivial⟩
  | true =>
    by_cases c0 : 1 ≤ s
    · by_cases c1 : s ≤ 999999
      · by_cases c2 : 1 ≤ n
        · have z2 : (1 : Int) ≤ (n : Int) := by omega
          by_cases c3 : n ≤ 900
          · have z3 : (n : Int) ≤ 900 := by omega
            obtain rfl : D = true := HD.out.2 ⟨rfl, c0, c1, c2, c3⟩
            clear HD HF
            go_enter Try.func27, Try.ntmps27
            go_wp2_with fail
            refine (CK.out _).mono ?_
            rintro e w1 ⟨rfl, hw⟩
            obtain rfl := hw
            go_wp2_with fail
            go_ret
            exact ⟨by first | rfl | (simp; done) | (simp [*]; done), by first | rfl | trivial⟩
          · obtain rfl : D = false := HF.out (fun h => c3 h.2.2.2.2)
            have z3 : ¬ (n : Int) ≤ 900 := by omega
            have y3 : decide ((n : Int) ≤ 900) = false := decide_eq_false z3
            clear HD HF
            go_enter Try.func27, Try.ntmps27
            go_wp2_with fail
            refine (CK.out _).mono ?_
            rintro e w1 ⟨rfl, hw⟩
            obtain rfl := hw
            go_wp2_with fail
            go_ret
            exact ⟨by first | rfl | (simp; done) | (simp [*]; done), by first | rfl | trivial⟩
        · obtain rfl : D = false := HF.out (fun h => c2 h.2.2.2.1)
          have z2 : ¬ (1 : Int) ≤ (n : Int) := by omega
          have y2 : decide ((1 : Int) ≤ (n : Int)) = false := decide_eq_false z2
          clear HD HF
          go_enter Try.func27, Try.ntmps27
          go_wp2_with fail
          refine (CK.out _).mono ?_
          rintro e w1 ⟨rfl, hw⟩
          obtain rfl := hw
          go_wp2_with fail
          go_ret
          exact ⟨by first | rfl | (simp; done) | (simp [*]; done), by first | rfl | trivial⟩
      · obtain rfl : D = false := HF.out (fun h => c1 h.2.2.1)
        have y1 : decide (s ≤ 999999) = false := decide_eq_false c1
        clear HD HF
        go_enter Try.func27, Try.ntmps27
        go_wp2_with fail
        refine (CK.out _).mono ?_
        rintro e w1 ⟨rfl, hw⟩
        obtain rfl := hw
        go_wp2_with fail
        go_ret
        exact ⟨by first | rfl | (simp; done) | (simp [*]; done), by first | rfl | trivial⟩
    · obtain rfl : D = false := HF.out (fun h => c0 h.2.1)
      have y0 : decide (1 ≤ s) = false := decide_eq_false c0
      clear HD HF
      go_enter Try.func27, Try.ntmps27
      go_wp2_with fail
      refine (CK.out _).mono ?_
      rintro e w1 ⟨rfl, hw⟩
      obtain rfl := hw
      go_wp2_with fail
      go_ret
      exact ⟨by first | rfl | (simp; done) | (simp [*]; done), by first | rfl | trivial⟩
set_option maxRecDepth 100000 in
set_option maxHeartbeats 1000000 in
theorem right15_any (x : Wkb) (a : Aq) (W : World) : Calls Try.prog 11 #[.agg (askC x a)] W fun e W' => e = .returned (.bool (decide (RightA a))) ∧ Below W.heap.size W W' := by
  obtain ⟨V, C, hC, hV, hb, hg⟩ := bxQ1 W x a
  have HB := Lib.hid hb
  have HV := Lib.hid hV
  have HG := Lib.hid hg
  rw [← hC]
  obtain ⟨D, hD⟩ : ∃ D, D = decide (RightA a) := ⟨_, rfl⟩
  rw [← hD]
  have HD := Lib.hid (show D = (decide (NoneA a) || (decide (FitsA a.code a.stan a.body.length) && decide (1 ≤ a.due) && decide (a.due ≤ 8) && decide (0 ≤ a.left) && decide (a.left ≤ 3))) from by
    rw [hD, Bool.eq_iff_iff]
    simp only [Bool.and_eq_true, Bool.or_eq_true, decide_eq_true_eq]
    unfold RightA
    exact ⟨fun h => h.elim .inl (fun h => .inr ⟨⟨⟨⟨h.1, h.2.1⟩, h.2.2.1⟩, h.2.2.2.1⟩, h.2.2.2.2⟩), fun h => h.elim .inl (fun h => .inr ⟨h.1.1.1.1, h.1.1.1.2, h.1.1.2, h.1.2, h.2⟩)⟩)
  have CN := Lib.hid (fun w => none15_any x a w)
  have CF := Lib.hid (fun w => fits15_any a.code a.stan x.1 a.body.length x.2 w)
  have HX := Lib.hid (fun w (h : BxQ w W.heap.size x a) => show w.cell? ⟨W.heap.size, 0, none⟩ = some (.int .i64 a.code) ∧ w.cell? ⟨W.heap.size, 1, none⟩ = some (.int .i64 a.stan) ∧ w.cell? ⟨W.heap.size, 2, none⟩ = some (.int .i64 a.due) ∧ w.cell? ⟨W.heap.size, 3, none⟩ = some (.int .i64 a.left) ∧ w.cell? ⟨W.heap.size, 4, none⟩ = some (.slice x.1 a.body.length x.2) from ⟨h.cell rfl, h.cell rfl, h.cell rfl, h.cell rfl, h.cell rfl⟩)
  generalize decide (NoneA a) = pn at *
  generalize decide (FitsA a.code a.stan a.body.length) = pf at *
  obtain ⟨d, hd⟩ : ∃ d, d = a.due := ⟨_, rfl⟩
  obtain ⟨l, hl⟩ : ∃ d, d = a.left := ⟨_, rfl⟩
  rw [← hd, ← hl] at HD HX
  clear hC hV hb hg hD hd hl
  cases pn with
  | true =>
    obtain rfl : D = true := HD.out.trans (by simp)
    clear HD
    go_enter Try.func11, Try.ntmps11
    go_upto_region 1 with (fail)
    rw [← HV.out]
    clear HV
    go_wp2_with (refine loadX (.tmp 1) W.heap.size _ tyAsk rfl HG.out rfl rfl rfl ?_)
    refine (CN.out _).mono ?_
    rintro e w1 ⟨rfl, hb⟩
    obtain ⟨x0, x1, x2, x3, x4⟩ := HX.out _ (HG.out.go hb)
    have HB1 := Lib.hid (belG HB.out hb HB.out.size)
    clear hb HB HX HG CN
    go_wp2_with fail
    refine (CF.out _).mono ?_
    rintro e w2 ⟨rfl, hw⟩
    obtain rfl := hw
    go_wp2_with fail
    go_ret
    exact ⟨by first | rfl | (simp; done) | (simp [*]; done), HB1.out⟩
  | false =>
    cases pf with
    | false =>
      obtain rfl : D = false := HD.out.trans (by simp)
      clear HD
      go_enter Try.func11, Try.ntmps11
      go_upto_region 1 with (fail)
      rw [← HV.out]
      clear HV
      go_wp2_with (refine loadX (.tmp 1) W.heap.size _ tyAsk rfl HG.out rfl rfl rfl ?_)
      refine (CN.out _).mono ?_
      rintro e w1 ⟨rfl, hb⟩
      obtain ⟨x0, x1, x2, x3, x4⟩ := HX.out _ (HG.out.go hb)
      have HB1 := Lib.hid (belG HB.out hb HB.out.size)
      clear hb HB HX HG CN
      go_wp2_with fail
      refine (CF.out _).mono ?_
      rintro e w2 ⟨rfl, hw⟩
      obtain rfl := hw
      go_wp2_with fail
      go_ret
      exact ⟨by first | rfl | (simp; done) | (simp [*]; done), HB1.out⟩
    | true =>
      by_cases c0 : 1 ≤ d
      · by_cases c1 : d ≤ 8
        · by_cases c2 : 0 ≤ l
          · by_cases c3 : l ≤ 3
            · obtain rfl : D = true := HD.out.trans (by simp [c0, c1, c2, c3])
              clear HD
              go_enter Try.func11, Try.ntmps11
              go_upto_region 1 with (fail)
              rw [← HV.out]
              clear HV
              go_wp2_with (refine loadX (.tmp 1) W.heap.size _ tyAsk rfl HG.out rfl rfl rfl ?_)
              refine (CN.out _).mono ?_
              rintro e w1 ⟨rfl, hb⟩
              obtain ⟨x0, x1, x2, x3, x4⟩ := HX.out _ (HG.out.go hb)
              have HB1 := Lib.hid (belG HB.out hb HB.out.size)
              clear hb HB HX HG CN
              go_wp2_with fail
              refine (CF.out _).mono ?_
              rintro e w2 ⟨rfl, hw⟩
              obtain rfl := hw
              go_wp2_with fail
              go_ret
              exact ⟨by first | rfl | (simp; done) | (simp [*]; done), HB1.out⟩
            · obtain rfl : D = false := HD.out.trans (by simp [c3])
              have y3 : decide (l ≤ 3) = false := decide_eq_false c3
              clear HD
              go_enter Try.func11, Try.ntmps11
              go_upto_region 1 with (fail)
              rw [← HV.out]
              clear HV
              go_wp2_with (refine loadX (.tmp 1) W.heap.size _ tyAsk rfl HG.out rfl rfl rfl ?_)
              refine (CN.out _).mono ?_
              rintro e w1 ⟨rfl, hb⟩
              obtain ⟨x0, x1, x2, x3, x4⟩ := HX.out _ (HG.out.go hb)
              have HB1 := Lib.hid (belG HB.out hb HB.out.size)
              clear hb HB HX HG CN
              go_wp2_with fail
              refine (CF.out _).mono ?_
              rintro e w2 ⟨rfl, hw⟩
              obtain rfl := hw
              go_wp2_with fail
              go_ret
              exact ⟨by first | rfl | (simp; done) | (simp [*]; done), HB1.out⟩
          · obtain rfl : D = false := HD.out.trans (by simp [c2])
            have y2 : decide (0 ≤ l) = false := decide_eq_false c2
            clear HD
            go_enter Try.func11, Try.ntmps11
            go_upto_region 1 with (fail)
            rw [← HV.out]
            clear HV
            go_wp2_with (refine loadX (.tmp 1) W.heap.size _ tyAsk rfl HG.out rfl rfl rfl ?_)
            refine (CN.out _).mono ?_
            rintro e w1 ⟨rfl, hb⟩
            obtain ⟨x0, x1, x2, x3, x4⟩ := HX.out _ (HG.out.go hb)
            have HB1 := Lib.hid (belG HB.out hb HB.out.size)
            clear hb HB HX HG CN
            go_wp2_with fail
            refine (CF.out _).mono ?_
            rintro e w2 ⟨rfl, hw⟩
            obtain rfl := hw
            go_wp2_with fail
            go_ret
            exact ⟨by first | rfl | (simp; done) | (simp [*]; done), HB1.out⟩
        · obtain rfl : D = false := HD.out.trans (by simp [c1])
          have y1 : decide (d ≤ 8) = false := decide_eq_false c1
          clear HD
          go_enter Try.func11, Try.ntmps11
          go_upto_region 1 with (fail)
          rw [← HV.out]
          clear HV
          go_wp2_with (refine loadX (.tmp 1) W.heap.size _ tyAsk rfl HG.out rfl rfl rfl ?_)
          refine (CN.out _).mono ?_
          rintro e w1 ⟨rfl, hb⟩
          obtain ⟨x0, x1, x2, x3, x4⟩ := HX.out _ (HG.out.go hb)
          have HB1 := Lib.hid (belG HB.out hb HB.out.size)
          clear hb HB HX HG CN
          go_wp2_with fail
          refine (CF.out _).mono ?_
          rintro e w2 ⟨rfl, hw⟩
          obtain rfl := hw
          go_wp2_with fail
          go_ret
          exact ⟨by first | rfl | (simp; done) | (simp [*]; done), HB1.out⟩
      · obtain rfl : D = false := HD.out.trans (by simp [c0])
        have y0 : decide (1 ≤ d) = false := decide_eq_false c0
        clear HD
        go_enter Try.func11, Try.ntmps11
        go_upto_region 1 with (fail)
        rw [← HV.out]
        clear HV
        go_wp2_with (refine loadX (.tmp 1) W.heap.size _ tyAsk rfl HG.out rfl rfl rfl ?_)
        refine (CN.out _).mono ?_
        rintro e w1 ⟨rfl, hb⟩
        obtain ⟨x0, x1, x2, x3, x4⟩ := HX.out _ (HG.out.go hb)
        have HB1 := Lib.hid (belG HB.out hb HB.out.size)
        clear hb HB HX HG CN
        go_wp2_with fail
        refine (CF.out _).mono ?_
        rintro e w2 ⟨rfl, hw⟩
        obtain rfl := hw
        go_wp2_with fail
        go_ret
        exact ⟨by first | rfl | (simp; done) | (simp [*]; done), HB1.out⟩
set_option maxRecDepth 100000 in
set_option maxHeartbeats 1000000 in
theorem same15_any (x y : Wkb) (a b : Aq) (W : World) (hx : AqR W x a) (hy : AqR W y b) : Calls Try.prog 12 #[.agg (askC x a), .agg (askC y b)] W fun r W' => r = .returned (.bool (decide (a = b))) ∧ Below W.heap.size W W' := by
  obtain ⟨V, C, D, hC, hD, hV, hb, k1, k2, -⟩ := bxQ2 W x y a b
  have CB := Lib.hid (sameQ_any x y a.body b.body V (hx.go hb) (hy.go hb))
  rw [← hC, ← hD]
  have x0 : V.cell? ⟨W.heap.size, 0, none⟩ = some (.int .i64 a.code) := k1.cell rfl
  have y0 : V.cell? ⟨W.heap.size + 1, 0, none⟩ = some (.int .i64 b.code) := k2.cell rfl
  have x1 : V.cell? ⟨W.heap.size, 1, none⟩ = some (.int .i64 a.stan) := k1.cell rfl
  have y1 : V.cell? ⟨W.heap.size + 1, 1, none⟩ = some (.int .i64 b.stan) := k2.cell rfl
  have x2 : V.cell? ⟨W.heap.size, 2, none⟩ = some (.int .i64 a.due) := k1.cell rfl
  have y2 : V.cell? ⟨W.heap.size + 1, 2, none⟩ = some (.int .i64 b.due) := k2.cell rfl
  have x3 : V.cell? ⟨W.heap.size, 3, none⟩ = some (.int .i64 a.left) := k1.cell rfl
  have y3 : V.cell? ⟨W.heap.size + 1, 3, none⟩ = some (.int .i64 b.left) := k2.cell rfl
  have x4 : V.cell? ⟨W.heap.size, 4, none⟩ = some (.slice x.1 a.body.length x.2) := k1.cell rfl
  have y4 : V.cell? ⟨W.heap.size + 1, 4, none⟩ = some (.slice y.1 b.body.length y.2) := k2.cell rfl
  have HB := Lib.hid hb
  have HV := Lib.hid hV
  obtain ⟨R, hR⟩ : ∃ R, R = decide (a = b) := ⟨_, rfl⟩
  rw [← hR]
  have HR := Lib.hid (show R = (decide (a.code = b.code) && decide (a.stan = b.stan) && decide (a.due = b.due) && decide (a.left = b.left) && decide (a.body = b.body)) from by
    rw [hR, Bool.eq_iff_iff]
    simp only [Bool.and_eq_true, decide_eq_true_eq]
    exact ⟨fun e => by subst e; exact ⟨⟨⟨⟨rfl, rfl⟩, rfl⟩, rfl⟩, rfl⟩, fun h => Aq.ext' h.1.1.1.1 h.1.1.1.2 h.1.1.2 h.1.2 h.2⟩)
  generalize decide (a.body = b.body) = p at *
  generalize a.body.length = n1 at *
  generalize b.body.length = m1 at *
  generalize a.code = s0 at *
  generalize b.code = t0 at *
  generalize a.stan = s1 at *
  generalize b.stan = t1 at *
  generalize a.due = s2 at *
  generalize b.due = t2 at *
  generalize a.left = s3 at *
  generalize b.left = t3 at *
  clear hC hD hV hb k1 k2 hR hx hy
  have HD := HR.out
  clear HR
  go_enter Try.func12, Try.ntmps12
  go_upto_region 1 with (fail)
  rw [← HV.out]
  clear HV
  by_cases c0 : s0 = t0
  · subst c0
    by_cases c1 : s1 = t1
    · subst c1
      by_cases c2 : s2 = t2
      · subst c2
        by_cases c3 : s3 = t3
        · subst c3
          obtain rfl : R = p := HD.trans (by simp)
          clear HD
          go_wp2_with fail
          refine CB.out.mono ?_
          rintro r w1 ⟨rfl, hw⟩
          obtain rfl := hw
          go_wp2_with fail
          go_ret
          exact ⟨by first | rfl | (simp; done) | (simp [*]; done), HB.out⟩
        · have d3 : (s3 == t3) = false := beq_eq_false_iff_ne.2 c3
          obtain rfl : R = false := HD.trans (by rw [decide_eq_false c3]; simp)
          clear HD
          go_wp2_with fail
          go_ret
          exact ⟨by first | rfl | (simp; done) | (simp [*]; done), HB.out⟩
      · have d2 : (s2 == t2) = false := beq_eq_false_iff_ne.2 c2
        obtain rfl : R = false := HD.trans (by rw [decide_eq_false c2]; simp)
        clear HD
        go_wp2_with fail
        go_ret
        exact ⟨by first | rfl | (simp; done) | (simp [*]; done), HB.out⟩
    · have d1 : (s1 == t1) = false := beq_eq_false_iff_ne.2 c1
      obtain rfl : R = false := HD.trans (by rw [decide_eq_false c1]; simp)
      clear HD
      go_wp2_with fail
      go_ret
      exact ⟨by first | rfl | (simp; done) | (simp [*]; done), HB.out⟩
  · have d0 : (s0 == t0) = false := beq_eq_false_iff_ne.2 c0
    obtain rfl : R = false := HD.trans (by rw [decide_eq_false c0]; simp)
    clear HD
    go_wp2_with fail
    go_ret
    exact ⟨by first | rfl | (simp; done) | (simp [*]; done), HB.out⟩
set_option maxRecDepth 100000 in
set_option maxHeartbeats 1000000 in
theorem match15_any (x : Wkb) (a : Aq) (c s : Int) (W : World) : Calls Try.prog 20 #[.agg (askC x a), .int .i64 c, .int .i64 s] W fun e W' => e = .returned (.bool (decide (MatchA a c s))) ∧ Below W.heap.size W W' := by
  obtain ⟨V, C, hC, hV, hb, hg⟩ := bxQ1 W x a
  have HB := Lib.hid hb
  have HV := Lib.hid hV
  have HG := Lib.hid hg
  rw [← hC]
  obtain ⟨D, hD⟩ : ∃ D, D = decide (MatchA a c s) := ⟨_, rfl⟩
  rw [← hD]
  have HD := Lib.hid (show D = (!decide (NoneA a) && decide (a.code = c) && decide (a.stan = s)) from by
    rw [hD, Bool.eq_iff_iff]
    simp only [Bool.and_eq_true, Bool.not_eq_true', decide_eq_true_eq, decide_eq_false_iff_not]
    unfold MatchA
    exact ⟨fun h => ⟨⟨h.1, h.2.1⟩, h.2.2⟩, fun h => ⟨h.1.1, h.1.2, h.2⟩⟩)
  have CN := Lib.hid (fun w => none15_any x a w)
  have HX := Lib.hid (fun w (h : BxQ w W.heap.size x a) => show w.cell? ⟨W.heap.size, 0, none⟩ = some (.int .i64 a.code) ∧ w.cell? ⟨W.heap.size, 1, none⟩ = some (.int .i64 a.stan) from ⟨h.cell rfl, h.cell rfl⟩)
  generalize decide (NoneA a) = pn at *
  obtain ⟨d, hd⟩ : ∃ d, d = a.code := ⟨_, rfl⟩
  obtain ⟨l, hl⟩ : ∃ d, d = a.stan := ⟨_, rfl⟩
  rw [← hd, ← hl] at HD HX
  clear hC hV hb hg hD hd hl
  cases pn with
  | true =>
    obtain rfl : D = false := HD.out.trans (by simp)
    clear HD
    go_enter Try.func20, Try.ntmps20
    go_upto_region 1 with (fail)
    rw [← HV.out]
    clear HV
    go_wp2_with (refine loadX (.tmp 3) W.heap.size _ tyAsk rfl HG.out rfl rfl rfl ?_)
    refine (CN.out _).mono ?_
    rintro e w1 ⟨rfl, hb⟩
    obtain ⟨x0, x1⟩ := HX.out _ (HG.out.go hb)
    have HB1 := Lib.hid (belG HB.out hb HB.out.size)
    clear hb HB HX HG CN
    go_wp2_with fail
    go_ret
    exact ⟨by first | rfl | (simp; done) | (simp [*]; done), HB1.out⟩
  | false =>
    by_cases c0 : d = c
    · subst c0
      by_cases c1 : l = s
      · subst c1
        obtain rfl : D = true := HD.out.trans (by simp)
        clear HD
        go_enter Try.func20, Try.ntmps20
        go_upto_region 1 with (fail)
        rw [← HV.out]
        clear HV
        go_wp2_with (refine loadX (.tmp 3) W.heap.size _ tyAsk rfl HG.out rfl rfl rfl ?_)
        refine (CN.out _).mono ?_
        rintro e w1 ⟨rfl, hb⟩
        obtain ⟨x0, x1⟩ := HX.out _ (HG.out.go hb)
        have HB1 := Lib.hid (belG HB.out hb HB.out.size)
        clear hb HB HX HG CN
        go_wp2_with fail
        go_ret
        exact ⟨by first | rfl | (simp; done) | (simp [*]; done), HB1.out⟩
      · have e1 : (l == s) = false := beq_eq_false_iff_ne.2 c1
        obtain rfl : D = false := HD.out.trans (by simp [c1])
        clear HD c1
        go_enter Try.func20, Try.ntmps20
        go_upto_region 1 with (fail)
        rw [← HV.out]
        clear HV
        go_wp2_with (refine loadX (.tmp 3) W.heap.size _ tyAsk rfl HG.out rfl rfl rfl ?_)
        refine (CN.out _).mono ?_
        rintro e w1 ⟨rfl, hb⟩
        obtain ⟨x0, x1⟩ := HX.out _ (HG.out.go hb)
        have HB1 := Lib.hid (belG HB.out hb HB.out.size)
        clear hb HB HX HG CN
        go_wp2_with fail
        go_ret
        exact ⟨by first | rfl | (simp; done) | (simp [*]; done), HB1.out⟩
    · have e0 : (d == c) = false := beq_eq_false_iff_ne.2 c0
      obtain rfl : D = false := HD.out.trans (by simp [c0])
      clear HD c0
      go_enter Try.func20, Try.ntmps20
      go_upto_region 1 with (fail)
      rw [← HV.out]
      clear HV
      go_wp2_with (refine loadX (.tmp 3) W.heap.size _ tyAsk rfl HG.out rfl rfl rfl ?_)
      refine (CN.out _).mono ?_
      rintro e w1 ⟨rfl, hb⟩
      obtain ⟨x0, x1⟩ := HX.out _ (HG.out.go hb)
      have HB1 := Lib.hid (belG HB.out hb HB.out.size)
      clear hb HB HX HG CN
      go_wp2_with fail
      go_ret
      exact ⟨by first | rfl | (simp; done) | (simp [*]; done), HB1.out⟩
set_option maxRecDepth 100000 in
set_option maxHeartbeats 1000000 in
theorem begin15_any (c s : Int) (x : Wkb) (b : List UInt8) (W : World) (hk : KeyB W x b) : Calls Try.prog 10 #[.int .i64 c, .int .i64 s, .slice x.1 b.length x.2] W fun e W' => AnsAq W' e (beginA c s b).1 [.int .i64 (beginA c s b).2] ∧ Below W.heap.size W W' := by
  obtain ⟨V, hV, hb, hg⟩ := bx1 W 24 (askC wq0 aq0)
  have HB := Lib.hid hb
  have HV := Lib.hid (show V = W.alloc (.cells #[.int .i64 0, .int .i64 0, .int .i64 0, .int .i64 0, .slice none 0 0] 24) from hV)
  have J := Lib.hid hg
  have KB := Lib.hid (hk.go hb)
  have CF := Lib.hid (fun w => fits15_any c s x.1 b.length x.2 w)
  by_cases hf : FitsA c s b.length
  · rw [decide_eq_true hf] at CF
    have HI := Lib.hid (show beginA c s b = (⟨c, s, 8, 3, b⟩, 0) from by unfold beginA; rw [if_pos hf])
    have HE := Lib.hid (show askC x ⟨c, s, 8, 3, b⟩ = #[.int .i64 c, .int .i64 s, .int .i64 8, .int .i64 3, .slice x.1 b.length x.2] from rfl)
    clear hV hb hg hk hf
    go_enter Try.func10, Try.ntmps10
    go_upto_region 1 with (fail)
    rw [← HV.out]
    clear HV
    go_wp2_with fail
    refine (CF.out _).mono ?_
    rintro e w1 ⟨rfl, hw⟩
    obtain rfl := hw
    go_wp2_with (refine storeX (.tmp 6) (.tmp 19) W.heap.size (askC x ⟨c, s, 8, 3, b⟩) _ tyAsk rfl (askC_one _ _) J.out rfl rfl rfl rfl (by rw [HE.out]; rfl) ?_)
    (try dsimp only)
    refine bodyPost_ret (retX2 rfl _ _ W.heap.size (askC x ⟨c, s, 8, 3, b⟩) _ tyAsk rfl rfl rfl (Bx.setRow J.out _)) rfl ?_
    exact ⟨by rw [HI.out]; exact ⟨x, rfl, KB.out.setRow J.out (no8_ask _ _)⟩, Below.setRowG HB.out (Nat.le_refl _) _⟩
  · rw [decide_eq_false hf] at CF
    have HI := Lib.hid (show beginA c s b = (aq0, 1) from by unfold beginA; rw [if_neg hf])
    clear hV hb hg hk hf
    go_enter Try.func10, Try.ntmps10
    go_upto_region 1 with (fail)
    rw [← HV.out]
    clear HV
    go_wp2_with fail
    refine (CF.out _).mono ?_
    rintro e w1 ⟨rfl, hw⟩
    obtain rfl := hw
    go_wp2_with (refine storeX (.tmp 6) (.tmp 15) W.heap.size (askC wq0 aq0) _ tyAsk rfl (askC_one _ _) J.out rfl rfl rfl rfl rfl ?_)
    (try dsimp only)
    refine bodyPost_ret (retX2 rfl _ _ W.heap.size (askC wq0 aq0) _ tyAsk rfl rfl rfl (Bx.setRow J.out _)) rfl ?_
    exact ⟨by rw [HI.out]; exact ⟨wq0, rfl, keyB0 _⟩, Below.setRowG HB.out (Nat.le_refl _) _⟩
set_option maxRecDepth 100000 in
set_option maxHeartbeats 2000000 in
theorem tick15_any (x : Wkb) (a : Aq) (W : World) (h64 : Aq64 a) (hk : AqR W x a) : Calls Try.prog 22 #[.agg (askC x a)] W fun e W' => AnsAq W' e (tickA a).1 [.bool (tickA a).2.1, .bool (tickA a).2.2] ∧ Below W.heap.size W W' := by
  obtain ⟨V, hV, hb, hg, hj, -⟩ := bx2 W 24 24 (askC x a) (askC wq0 aq0)
  have HB := Lib.hid hb
  obtain ⟨C, hC⟩ : ∃ C, C = askC x a := ⟨_, rfl⟩
  have HV := Lib.hid (show V = (W.alloc (.cells C 24)).alloc (.cells #[.int .i64 0, .int .i64 0, .int .i64 0, .int .i64 0, .slice none 0 0] 24) from by rw [hC]; exact hV)
  have HG := Lib.hid hg
  have J := Lib.hid hj
  have KB := Lib.hid (hk.go hb)
  have CN := Lib.hid (fun w => none15_any x a w)
  have HNE := Lib.hid (show W.heap.size ≠ W.heap.size + 1 by omega)
  rw [← hC]
  clear hV hb hg hj hk hC
  by_cases hn : NoneA a
  · rw [decide_eq_true hn] at CN
    have HI := Lib.hid (show tickA a = (a, false, false) from by unfold tickA; rw [if_pos hn])
    clear hn
    go_enter Try.func22, Try.ntmps22
    go_upto_region 1 with (fail)
    rw [← HV.out]
    clear HV
    go_wp2_with (refine loadX (.tmp 1) W.heap.size _ tyAsk rfl HG.out rfl rfl rfl ?_)
    refine (CN.out _).mono ?_
    rintro e w1 ⟨rfl, hb⟩
    have HB1 := Lib.hid (belG HB.out hb HB.out.size)
    have G1 := Lib.hid (HG.out.go hb)
    have J1 := Lib.hid (J.out.go hb)
    have K1 := Lib.hid (KB.out.go hb)
    clear hb HB HG J KB CN
    go_wp2_with (first | (refine loadX (.tmp 1) W.heap.size _ tyAsk rfl G1.out rfl rfl rfl ?_) | (refine storeX (.tmp 2) (.tmp 9) (W.heap.size + 1) (askC x a) _ tyAsk rfl (askC_one _ _) J1.out rfl rfl rfl rfl rfl ?_))
    (try dsimp only)
    refine bodyPost_ret (retX3 rfl _ _ (W.heap.size + 1) (askC x a) _ _ tyAsk rfl rfl rfl rfl (Bx.setRow J1.out _)) rfl ?_
    exact ⟨by rw [HI.out]; exact ⟨x, rfl, K1.out.setRow J1.out (no8_ask _ _)⟩, Below.setRowG HB1.out (Nat.le_succ _) _⟩
  rw [decide_eq_false hn] at CN
  have hd : B64a a.due := h64.2.2.1
  have hl : B64a a.left := h64.2.2.2
  obtain ⟨d, hdd⟩ : ∃ d, d = a.due := ⟨_, rfl⟩
  obtain ⟨l, hll⟩ : ∃ d, d = a.left := ⟨_, rfl⟩
  have HX := Lib.hid (fun w (h : BxQ w W.heap.size x a) => show w.cell? ⟨W.heap.size, 2, none⟩ = some (.int .i64 d) ∧ w.cell? ⟨W.heap.size, 3, none⟩ = some (.int .i64 l) from by rw [hdd, hll]; exact ⟨h.cell rfl, h.cell rfl⟩)
  have d0 : -9223372036854775808 ≤ d := by rw [hdd]; exact hd.1
  have d1 : d ≤ 9223372036854775807 := by rw [hdd]; exact hd.2
  have l0 : -9223372036854775808 ≤ l := by rw [hll]; exact hl.1
  have l1 : l ≤ 9223372036854775807 := by rw [hll]; exact hl.2
  by_cases h1 : 1 < d
  · have HI := Lib.hid (show tickA a = ({ a with due := d - 1 }, false, false) from by unfold tickA; rw [if_neg hn, if_pos (by omega), hdd])
    clear hn hd hl hdd hll h64
    go_enter Try.func22, Try.ntmps22
    go_upto_region 1 with (fail)
    rw [← HV.out]
    clear HV
    go_wp2_with (refine loadX (.tmp 1) W.heap.size _ tyAsk rfl HG.out rfl rfl rfl ?_)
    refine (CN.out _).mono ?_
    rintro e w1 ⟨rfl, hb⟩
    have HB1 := Lib.hid (belG HB.out hb HB.out.size)
    have G1 := Lib.hid (HG.out.go hb)
    have J1 := Lib.hid (J.out.go hb)
    have K1 := Lib.hid (KB.out.go hb)
    clear hb HB HG J KB CN
    obtain ⟨x2, x3⟩ := HX.out _ G1.out
    have f2 := G1.out.thaw 2
    have f3 := G1.out.thaw 3
    clear HX
    go_upto_region 6 with (fail)
    obtain ⟨V2, hV⟩ : ∃ v, v = (w1.setCell ⟨W.heap.size, 2, none⟩ (.int .i64 (d - 1))) := ⟨_, rfl⟩
    rw [← hV]
    have hj := J1.out.setOther HNE.out.symm 2 (.int .i64 (d - 1))
    have hk := K1.out.put1 G1.out (no8_ask _ _) 2 (.int .i64 (d - 1))
    have hb := HB1.out.setCell (p := ⟨W.heap.size, 2, none⟩) (Nat.le_refl _) (.int .i64 (d - 1))
    have hg := G1.out.set (j := 2) (v := .int .i64 (d - 1)) (show (askC x a).setIfInBounds 2 (.int .i64 (d - 1)) = askC x { a with due := d - 1 } from rfl)
    have hj7 := hj
    have hk7 := hk
    have hb7 := hb
    have hg7 := hg
    clear hj hk hb hg
    rw [← hV] at hg7 hj7 hk7 hb7
    have G2 := Lib.hid hg7
    have J2 := Lib.hid hj7
    have K2 := Lib.hid hk7
    have HB2 := Lib.hid hb7
    clear hV hg7 hj7 hk7 hb7 G1 J1 K1 HB1
    go_wp2_with (first | (refine loadX (.tmp 1) W.heap.size _ tyAsk rfl G2.out rfl rfl rfl ?_) | (refine storeX (.tmp 2) (.tmp 17) (W.heap.size + 1) (askC x { a with due := d - 1 }) _ tyAsk rfl (askC_one _ _) J2.out rfl rfl rfl rfl rfl ?_))
    (try dsimp only)
    refine bodyPost_ret (retX3 rfl _ _ (W.heap.size + 1) (askC x { a with due := d - 1 }) _ _ tyAsk rfl rfl rfl rfl (Bx.setRow J2.out _)) rfl ?_
    exact ⟨by rw [HI.out]; exact ⟨x, rfl, K2.out.setRow J2.out (no8_ask _ _)⟩, Below.setRowG HB2.out (Nat.le_succ _) _⟩
  by_cases h2 : 0 < l
  · have HI := Lib.hid (show tickA a = ({ a with left := l - 1, due := 8 }, true, false) from by unfold tickA; rw [if_neg hn, if_neg (by omega), if_pos (by omega), hll])
    clear hn hd hl hdd hll h64
    go_enter Try.func22, Try.ntmps22
    go_upto_region 1 with (fail)
    rw [← HV.out]
    clear HV
    go_wp2_with (refine loadX (.tmp 1) W.heap.size _ tyAsk rfl HG.out rfl rfl rfl ?_)
    refine (CN.out _).mono ?_
    rintro e w1 ⟨rfl, hb⟩
    have HB1 := Lib.hid (belG HB.out hb HB.out.size)
    have G1 := Lib.hid (HG.out.go hb)
    have J1 := Lib.hid (J.out.go hb)
    have K1 := Lib.hid (KB.out.go hb)
    clear hb HB HG J KB CN
    obtain ⟨x2, x3⟩ := HX.out _ G1.out
    have f2 := G1.out.thaw 2
    have f3 := G1.out.thaw 3
    clear HX
    go_upto_region 10 with (fail)
    obtain ⟨V2, hV⟩ : ∃ v, v = ((w1.setCell ⟨W.heap.size, 3, none⟩ (.int .i64 (l - 1))).setCell ⟨W.heap.size, 2, none⟩ (.int .i64 (8))) := ⟨_, rfl⟩
    rw [← hV]
    have hj := J1.out.setOther HNE.out.symm 3 (.int .i64 (l - 1))
    have hk := K1.out.put1 G1.out (no8_ask _ _) 3 (.int .i64 (l - 1))
    have hb := HB1.out.setCell (p := ⟨W.heap.size, 3, none⟩) (Nat.le_refl _) (.int .i64 (l - 1))
    have hg := G1.out.set (j := 3) (v := .int .i64 (l - 1)) (show (askC x a).setIfInBounds 3 (.int .i64 (l - 1)) = askC x { a with left := l - 1 } from rfl)
    have hj8 := hj
    have hk8 := hk
    have hb8 := hb
    have hg8 := hg
    clear hj hk hb hg
    have hj := hj8.setOther HNE.out.symm 2 (.int .i64 (8))
    have hk := hk8.put1 hg8 (no8_ask _ _) 2 (.int .i64 (8))
    have hb := hb8.setCell (p := ⟨W.heap.size, 2, none⟩) (Nat.le_refl _) (.int .i64 (8))
    have hg := hg8.set (j := 2) (v := .int .i64 (8)) (show (askC x { a with left := l - 1 }).setIfInBounds 2 (.int .i64 (8)) = askC x { a with left := l - 1, due := 8 } from rfl)
    have hj7 := hj
    have hk7 := hk
    have hb7 := hb
    have hg7 := hg
    clear hj hk hb hg
    rw [← hV] at hg7 hj7 hk7 hb7
    have G2 := Lib.hid hg7
    have J2 := Lib.hid hj7
    have K2 := Lib.hid hk7
    have HB2 := Lib.hid hb7
    clear hV hg8 hj8 hk8 hb8 hg7 hj7 hk7 hb7 G1 J1 K1 HB1
    go_wp2_with (first | (refine loadX (.tmp 1) W.heap.size _ tyAsk rfl G2.out rfl rfl rfl ?_) | (refine storeX (.tmp 2) (.tmp 26) (W.heap.size + 1) (askC x { a with left := l - 1, due := 8 }) _ tyAsk rfl (askC_one _ _) J2.out rfl rfl rfl rfl rfl ?_))
    (try dsimp only)
    refine bodyPost_ret (retX3 rfl _ _ (W.heap.size + 1) (askC x { a with left := l - 1, due := 8 }) _ _ tyAsk rfl rfl rfl rfl (Bx.setRow J2.out _)) rfl ?_
    exact ⟨by rw [HI.out]; exact ⟨x, rfl, K2.out.setRow J2.out (no8_ask _ _)⟩, Below.setRowG HB2.out (Nat.le_succ _) _⟩
  have HI := Lib.hid (show tickA a = (aq0, false, true) from by unfold tickA; rw [if_neg hn, if_neg (by omega), if_neg (by omega)])
  clear hn hd hl hdd hll h64
  go_enter Try.func22, Try.ntmps22
  go_upto_region 1 with (fail)
  rw [← HV.out]
  clear HV
  go_wp2_with (refine loadX (.tmp 1) W.heap.size _ tyAsk rfl HG.out rfl rfl rfl ?_)
  refine (CN.out _).mono ?_
  rintro e w1 ⟨rfl, hb⟩
  have HB1 := Lib.hid (belG HB.out hb HB.out.size)
  have G1 := Lib.hid (HG.out.go hb)
  have J1 := Lib.hid (J.out.go hb)
  have K1 := Lib.hid (KB.out.go hb)
  clear hb HB HG J KB CN
  obtain ⟨x2, x3⟩ := HX.out _ G1.out
  have f2 := G1.out.thaw 2
  have f3 := G1.out.thaw 3
  clear HX
  go_wp2_with (refine storeX (.tmp 2) (.tmp 27) (W.heap.size + 1) (askC wq0 aq0) _ tyAsk rfl (askC_one _ _) J1.out rfl rfl rfl rfl rfl ?_)
  (try dsimp only)
  refine bodyPost_ret (retX3 rfl _ _ (W.heap.size + 1) (askC wq0 aq0) _ _ tyAsk rfl rfl rfl rfl (Bx.setRow J1.out _)) rfl ?_
  exact ⟨by rw [HI.out]; exact ⟨wq0, rfl, keyB0 _⟩, Below.setRowG HB1.out (Nat.le_succ _) _⟩
end Go.Proofs.Ytegekmgelnkdbaa
