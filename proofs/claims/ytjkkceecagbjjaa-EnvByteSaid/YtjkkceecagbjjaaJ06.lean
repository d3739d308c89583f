
/- Envelopes in memory; the document's answers (env): number, parts, Right, Few, Same. -/
import Derived.Test.YtjkkceecagbjjaaJ04
import Derived.Test.YtjkkceecagbjjaaJ05
import Derived.Test.YtjkkceecagbjjaaJ02
import Derived.Test.YtjkkceecagbjjaaJ03
namespace Go.Proofs.Ytjkkceecagbjjaa
open Go.RowKit

/-- where a row lies: its address, and the slice's capacity -/
abbrev Wke := Option Addr × Nat
structure We where
  body : Wke
  tag : Wke
def envC (x : We) (e : Ev) : Array Value := #[.int .i64 e.kind, .int .i64 e.dir, .int .i64 e.e0, .int .i64 e.e1, .int .i64 e.gen, .int .i64 e.seq, .slice x.body.1 e.body.length x.body.2, .slice x.tag.1 e.tag.length x.tag.2]
set_option maxRecDepth 100000 in
theorem envC_one (x : We) (e : Ev) : (envC x e).all (·.oneCell') = true := by simp [envC, Value.oneCell']
set_option maxRecDepth 100000 in
theorem tyEnv : Ty 25 8 := ⟨⟨_, Try.underlying25, rfl⟩, by kernel_rfl⟩
def KeyE (w : World) (x : Wke) (l : List UInt8) : Prop := l.length ≤ x.2 ∧ x.2 ≤ 9223372036854775807 ∧ Rd w w.heap.size x.1 l
def EnvR (w : World) (x : We) (e : Ev) : Prop := KeyE w x.body e.body ∧ KeyE w x.tag e.tag
set_option maxRecDepth 100000 in
theorem KeyE.go {w w' : World} {x : Wke} {l : List UInt8} (k : KeyE w x l) (hb : Below w.heap.size w w') : KeyE w' x l := ⟨k.1, k.2.1, k.2.2.go hb⟩
set_option maxRecDepth 100000 in
theorem EnvR.go {w w' : World} {x : We} {e : Ev} (k : EnvR w x e) (hb : Below w.heap.size w w') : EnvR w' x e := ⟨k.1.go hb, k.2.go hb⟩
abbrev BxE (w : World) (g : Nat) (x : We) (e : Ev) : Prop := Bx w g 25 (envC x e)
def B64e (x : Int) : Prop := -9223372036854775808 ≤ x ∧ x ≤ 9223372036854775807
def Ev64 (e : Ev) : Prop := B64e e.kind ∧ B64e e.dir ∧ B64e e.e0 ∧ B64e e.e1 ∧ B64e e.gen ∧ B64e e.seq
def fewE (e : Ev) : Prop := e.body.length ≤ 1000 ∧ e.tag.length ≤ 100
instance (e : Ev) : Decidable (fewE e) := by unfold fewE; infer_instance
set_option maxRecDepth 100000 in
theorem bxE1 (W : World) (x : We) (e : Ev) : ∃ V C, C = envC x e ∧ V = W.alloc (.cells C 25) ∧ Below W.heap.size W V ∧ BxE V W.heap.size x e := by
  obtain ⟨V, h1, h2, h3⟩ := bx1 W 25 (envC x e)
  exact ⟨V, _, rfl, h1, h2, h3⟩
set_option maxRecDepth 100000 in
theorem number12_any (n : Int) (W : World) : Calls Try.prog 38 #[.int .i64 n] W fun e W' => e = .returned (.bool (decide (NumE n))) ∧ W' = W := by
  unfold NumE
  by_cases h0 : (0 : Int) ≤ n
  · by_cases h1 : n ≤ 4611686018427387904
    · rw [decide_eq_true (show 0 ≤ n ∧ n ≤ 4611686018427387904 from ⟨h0, h1⟩)]
      go_enter Try.func38, Try.ntmps38
      go_wp2
      go_ret
      exact ⟨by first | rfl | (simp [h0, h1]; done), by first | rfl | trivial⟩
    · rw [decide_eq_false (show ¬ (0 ≤ n ∧ n ≤ 4611686018427387904) from fun k => h1 k.2)]
      go_enter Try.func38, Try.ntmps38
      go_wp2
      go_ret
      exact ⟨by first | rfl | (simp [h0, h1]; done) | (simp; omega), by first | rfl | trivial⟩
  · rw [decide_eq_false (show ¬ (0 ≤ n ∧ n ≤ 4611686018427387904) from fun k => h0 k.1)]
    go_enter Try.func38, Try.ntmps38
    go_wp2
    go_ret
    exact ⟨by first | rfl | (simp [h0]; done) | (simp; omega), by first | rfl | trivial⟩
set_option maxRecDepth 100000 in
set_option maxHeartbeats 4000000 in
theorem parts12_any (x : We) (e : Ev) (W : World) : Calls Try.prog 28 #[.agg (envC x e)] W fun r W' => r = .returned (.bool (decide (PartsE e))) ∧ Below W.heap.size W W' := by
  obtain ⟨V, C, hC, hV, hb, hg⟩ := bxE1 W x e
  have HB := Lib.hid hb
  have HV := Lib.hid hV
  have x0 : V.cell? ⟨W.heap.size, 0, none⟩ = some (.int .i64 e.kind) := hg.cell rfl
  have x1 : V.cell? ⟨W.heap.size, 1, none⟩ = some (.int .i64 e.dir) := hg.cell rfl
  have x2 : V.cell? ⟨W.heap.size, 2, none⟩ = some (.int .i64 e.e0) := hg.cell rfl
  have x3 : V.cell? ⟨W.heap.size, 3, none⟩ = some (.int .i64 e.e1) := hg.cell rfl
  have x4 : V.cell? ⟨W.heap.size, 4, none⟩ = some (.int .i64 e.gen) := hg.cell rfl
  have x5 : V.cell? ⟨W.heap.size, 5, none⟩ = some (.int .i64 e.seq) := hg.cell rfl
  have x6 : V.cell? ⟨W.heap.size, 6, none⟩ = some (.slice x.body.1 e.body.length x.body.2) := hg.cell rfl
  rw [← hC]
  obtain ⟨D, hD⟩ : ∃ D, D = decide (PartsE e) := ⟨_, rfl⟩
  rw [← hD]
  have HDE := Lib.hid (show D = (decide (NumE e.e0) && decide (NumE e.e1) && decide (NumE e.seq) && decide ((e.kind = 1 ∨ e.kind = 2) ∧ (e.dir = 0 ∨ e.dir = 1) ∧ 0 ≤ e.gen ∧ e.gen ≤ 2147483647 ∧ 1 ≤ e.body.length ∧ e.body.length ≤ 900)) from by
    rw [hD, Bool.eq_iff_iff]
    simp only [Bool.and_eq_true, decide_eq_true_eq]
    unfold PartsE
    exact ⟨fun h => ⟨⟨⟨h.1, h.2.1⟩, h.2.2.1⟩, h.2.2.2⟩, fun h => ⟨h.1.1.1, h.1.1.2, h.1.2, h.2⟩⟩)
  have C0 := Lib.hid (fun w => number12_any e.e0 w)
  have C1 := Lib.hid (fun w => number12_any e.e1 w)
  have C2 := Lib.hid (fun w => number12_any e.seq w)
  generalize decide (NumE e.e0) = n0 at *
  generalize decide (NumE e.e1) = n1 at *
  generalize decide (NumE e.seq) = n2 at *
  generalize e.kind = k at *
  generalize e.dir = d at *
  generalize e.gen = g at *
  generalize e.body.length = m at *
  generalize e.e0 = u0 at *
  generalize e.e1 = u1 at *
  generalize e.seq = u2 at *
  clear hC hV hb hg hD
  go_enter Try.func28, Try.ntmps28
  go_upto_region 1 with (fail)
  rw [← HV.out]
  go_wp2_with fail
  refine (C0.out _).mono ?_
  rintro r w1 ⟨rfl, hw⟩
  obtain rfl := hw.symm
  go_wp2_with fail
  refine (C1.out _).mono ?_
  rintro r w1 ⟨rfl, hw⟩
  obtain rfl := hw.symm
  go_wp2_with fail
  refine (C2.out _).mono ?_
  rintro r w1 ⟨rfl, hw⟩
  obtain rfl := hw.symm
  have HD := HDE.out
  clear HDE C0 C1 C2
  cases n0 with
  | false =>
    obtain rfl : D = false := HD.trans (by simp)
    clear HD
    go_wp2_with fail
    go_ret
    exact ⟨by first | rfl | (simp; done) | (simp [*]; done), HB.out⟩
  | true =>
    cases n1 with
    | false =>
      obtain rfl : D = false := HD.trans (by simp)
      clear HD
      go_wp2_with fail
      go_ret
      exact ⟨by first | rfl | (simp; done) | (simp [*]; done), HB.out⟩
    | true =>
      cases n2 with
      | false =>
        obtain rfl : D = false := HD.trans (by simp)
        clear HD
        go_wp2_with fail
        go_ret
        exact ⟨by first | rfl | (simp; done) | (simp [*]; done), HB.out⟩
      | true =>
        simp only [Bool.true_and, Bool.and_true] at HD
        by_cases hka : k = 1
        case pos =>
          subst hka
          by_cases hda : d = 0
          case pos =>
            subst hda
            by_cases h3 : 0 ≤ g
            case neg =>
              have h3d : decide (0 ≤ g) = false := decide_eq_false h3
              obtain rfl : D = false := HD.trans (by rw [decide_eq_false (fun q => h3 q.2.2.1)])
              clear HD
              go_wp2_with fail
              go_ret
              exact ⟨by first | rfl | (simp; done) | (simp [*]; done), HB.out⟩
            have h3d : decide (0 ≤ g) = true := decide_eq_true h3
            by_cases h4 : g ≤ 2147483647
            case neg =>
              have h4d : decide (g ≤ 2147483647) = false := decide_eq_false h4
              obtain rfl : D = false := HD.trans (by rw [decide_eq_false (fun q => h4 q.2.2.2.1)])
              clear HD
              go_wp2_with fail
              go_ret
              exact ⟨by first | rfl | (simp; done) | (simp [*]; done), HB.out⟩
            have h4d : decide (g ≤ 2147483647) = true := decide_eq_true h4
            by_cases h5 : 1 ≤ m
            case neg =>
              have h5i : ¬ (1 : Int) ≤ (m : Int) := by omega
              have h5d : decide (1 ≤ m) = false := decide_eq_false h5
              obtain rfl : D = false := HD.trans (by rw [decide_eq_false (fun q => h5 q.2.2.2.2.1)])
              clear HD
              go_wp2_with fail
              go_ret
              exact ⟨by first | rfl | (simp; done) | (simp [*]; done), HB.out⟩
            have h5i : (1 : Int) ≤ (m : Int) := by omega
            have h5d : decide (1 ≤ m) = true := decide_eq_true h5
            by_cases h6 : m ≤ 900
            case neg =>
              have h6i : ¬ (m : Int) ≤ 900 := by omega
              have h6d : decide (m ≤ 900) = false := decide_eq_false h6
              obtain rfl : D = false := HD.trans (by rw [decide_eq_false (fun q => h6 q.2.2.2.2.2)])
              clear HD
              go_wp2_with fail
              go_ret
              exact ⟨by first | rfl | (simp; done) | (simp [*]; done), HB.out⟩
            have h6i : (m : Int) ≤ 900 := by omega
            have h6d : decide (m ≤ 900) = true := decide_eq_true h6
            obtain rfl : D = true := HD.trans (by rw [decide_eq_true ⟨by omega, by omega, h3, h4, h5, h6⟩])
            clear HD
            go_wp2_with fail
            go_ret
            exact ⟨by first | rfl | (simp; done) | (simp [*]; done), HB.out⟩
          by_cases hdb : d = 1
          case pos =>
            subst hdb
            by_cases h3 : 0 ≤ g
            case neg =>
              have h3d : decide (0 ≤ g) = false := decide_eq_false h3
              obtain rfl : D = false := HD.trans (by rw [decide_eq_false (fun q => h3 q.2.2.1)])
              clear HD
              go_wp2_with fail
              go_ret
              exact ⟨by first | rfl | (simp; done) | (simp [*]; done), HB.out⟩
            have h3d : decide (0 ≤ g) = true := decide_eq_true h3
            by_cases h4 : g ≤ 2147483647
            case neg =>
              have h4d : decide (g ≤ 2147483647) = false := decide_eq_false h4
              obtain rfl : D = false := HD.trans (by rw [decide_eq_false (fun q => h4 q.2.2.2.1)])
              clear HD
              go_wp2_with fail
              go_ret
              exact ⟨by first | rfl | (simp; done) | (simp [*]; done), HB.out⟩
            have h4d : decide (g ≤ 2147483647) = true := decide_eq_true h4
            by_cases h5 : 1 ≤ m
            case neg =>
              have h5i : ¬ (1 : Int) ≤ (m : Int) := by omega
              have h5d : decide (1 ≤ m) = false := decide_eq_false h5
              obtain rfl : D = false := HD.trans (by rw [decide_eq_false (fun q => h5 q.2.2.2.2.1)])
              clear HD
              go_wp2_with fail
              go_ret
              exact ⟨by first | rfl | (simp; done) | (simp [*]; done), HB.out⟩
            have h5i : (1 : Int) ≤ (m : Int) := by omega
            have h5d : decide (1 ≤ m) = true := decide_eq_true h5
            by_cases h6 : m ≤ 900
            case neg =>
              have h6i : ¬ (m : Int) ≤ 900 := by omega
              have h6d : decide (m ≤ 900) = false := decide_eq_false h6
              obtain rfl : D = false := HD.trans (by rw [decide_eq_false (fun q => h6 q.2.2.2.2.2)])
              clear HD
              go_wp2_with fail
              go_ret
              exact ⟨by first | rfl | (simp; done) | (simp [*]; done), HB.out⟩
            have h6i : (m : Int) ≤ 900 := by omega
            have h6d : decide (m ≤ 900) = true := decide_eq_true h6
            obtain rfl : D = true := HD.trans (by rw [decide_eq_true ⟨by omega, by omega, h3, h4, h5, h6⟩])
            clear HD
            go_wp2_with fail
            go_ret
            exact ⟨by first | rfl | (simp; done) | (simp [*]; done), HB.out⟩
          have hd1 : (d == 0) = false := beq_eq_false_iff_ne.2 hda
          have hd2 : (d == 1) = false := beq_eq_false_iff_ne.2 hdb
          obtain rfl : D = false := HD.trans (by rw [decide_eq_false (fun q => by have := q.2.1; omega)])
          clear HD
          go_wp2_with fail
          go_ret
          exact ⟨by first | rfl | (simp; done) | (simp [*]; done), HB.out⟩
        by_cases hkb : k = 2
        case pos =>
          subst hkb
          by_cases hda : d = 0
          case pos =>
            subst hda
            by_cases h3 : 0 ≤ g
            case neg =>
              have h3d : decide (0 ≤ g) = false := decide_eq_false h3
              obtain rfl : D = false := HD.trans (by rw [decide_eq_false (fun q => h3 q.2.2.1)])
              clear HD
              go_wp2_with fail
              go_ret
              exact ⟨by first | rfl | (simp; done) | (simp [*]; done), HB.out⟩
            have h3d : decide (0 ≤ g) = true := decide_eq_true h3
            by_cases h4 : g ≤ 2147483647
            case neg =>
              have h4d : decide (g ≤ 2147483647) = false := decide_eq_false h4
              obtain rfl : D = false := HD.trans (by rw [decide_eq_false (fun q => h4 q.2.2.2.1)])
              clear HD
              go_wp2_with fail
              go_ret
              exact ⟨by first | rfl | (simp; done) | (simp [*]; done), HB.out⟩
            have h4d : decide (g ≤ 2147483647) = true := decide_eq_true h4
            by_cases h5 : 1 ≤ m
            case neg =>
              have h5i : ¬ (1 : Int) ≤ (m : Int) := by omega
              have h5d : decide (1 ≤ m) = false := decide_eq_false h5
              obtain rfl : D = false := HD.trans (by rw [decide_eq_false (fun q => h5 q.2.2.2.2.1)])
              clear HD
              go_wp2_with fail
              go_ret
              exact ⟨by first | rfl | (simp; done) | (simp [*]; done), HB.out⟩
            have h5i : (1 : Int) ≤ (m : Int) := by omega
            have h5d : decide (1 ≤ m) = true := decide_eq_true h5
            by_cases h6 : m ≤ 900
            case neg =>
              have h6i : ¬ (m : Int) ≤ 900 := by omega
              have h6d : decide (m ≤ 900) = false := decide_eq_false h6
              obtain rfl : D = false := HD.trans (by rw [decide_eq_false (fun q => h6 q.2.2.2.2.2)])
              clear HD
              go_wp2_with fail
              go_ret
              exact ⟨by first | rfl | (simp; done) | (simp [*]; done), HB.out⟩
            have h6i : (m : Int) ≤ 900 := by omega
            have h6d : decide (m ≤ 900) = true := decide_eq_true h6
            obtain rfl : D = true := HD.trans (by rw [decide_eq_true ⟨by omega, by omega, h3, h4, h5, h6⟩])
            clear HD
            go_wp2_with fail
            go_ret
            exact ⟨by first | rfl | (simp; done) | (simp [*]; done), HB.out⟩
          by_cases hdb : d = 1
          case pos =>
            subst hdb
            by_cases h3 : 0 ≤ g
            case neg =>
              have h3d : decide (0 ≤ g) = false := decide_eq_false h3
              obtain rfl : D = false := HD.trans (by rw [decide_eq_false (fun q => h3 q.2.2.1)])
              clear HD
              go_wp2_with fail
              go_ret
              exact ⟨by first | rfl | (simp; done) | (simp [*]; done), HB.out⟩
            have h3d : decide (0 ≤ g) = true := decide_eq_true h3
            by_cases h4 : g ≤ 2147483647
            case neg =>
              have h4d : decide (g ≤ 2147483647) = false := decide_eq_false h4
              obtain rfl : D = false := HD.trans (by rw [decide_eq_false (fun q => h4 q.2.2.2.1)])
              clear HD
              go_wp2_with fail
              go_ret
              exact ⟨by first | rfl | (simp; done) | (simp [*]; done), HB.out⟩
            have h4d : decide (g ≤ 2147483647) = true := decide_eq_true h4
            by_cases h5 : 1 ≤ m
            case neg =>
              have h5i : ¬ (1 : Int) ≤ (m : Int) := by omega
              have h5d : decide (1 ≤ m) = false := decide_eq_false h5
              obtain rfl : D = false := HD.trans (by rw [decide_eq_false (fun q => h5 q.2.2.2.2.1)])
              clear HD
              go_wp2_with fail
              go_ret
              exact ⟨by first | rfl | (simp; done) | (simp [*]; done), HB.out⟩
            have h5i : (1 : Int) ≤ (m : Int) := by omega
            have h5d : decide (1 ≤ m) = true := decide_eq_true h5
            by_cases h6 : m ≤ 900
            case neg =>
              have h6i : ¬ (m : Int) ≤ 900 := by omega
              have h6d : decide (m ≤ 900) = false := decide_eq_false h6
              obtain rfl : D = false := HD.trans (by rw [decide_eq_false (fun q => h6 q.2.2.2.2.2)])
              clear HD
              go_wp2_with fail
              go_ret
              exact ⟨by first | rfl | (simp; done) | (simp [*]; done), HB.out⟩
            have h6i : (m : Int) ≤ 900 := by omega
            have h6d : decide (m ≤ 900) = true := decide_eq_true h6
            obtain rfl : D = true := HD.trans (by rw [decide_eq_true ⟨by omega, by omega, h3, h4, h5, h6⟩])
            clear HD
            go_wp2_with fail
            go_ret
            exact ⟨by first | rfl | (simp; done) | (simp [*]; done), HB.out⟩
          have hd1 : (d == 0) = false := beq_eq_false_iff_ne.2 hda
          have hd2 : (d == 1) = false := beq_eq_false_iff_ne.2 hdb
          obtain rfl : D = false := HD.trans (by rw [decide_eq_false (fun q => by have := q.2.1; omega)])
          clear HD
          go_wp2_with fail
          go_ret
          exact ⟨by first | rfl | (simp; done) | (simp [*]; done), HB.out⟩
        have hk1 : (k == 1) = false := beq_eq_false_iff_ne.2 hka
        have hk2 : (k == 2) = false := beq_eq_false_iff_ne.2 hkb
        obtain rfl : D = false := HD.trans (by rw [decide_eq_false (fun q => by have := q.1; omega)])
        clear HD
        go_wp2_with fail
        go_ret
        exact ⟨by first | rfl | (simp; done) | (simp [*]; done), HB.out⟩
set_option maxRecDepth 100000 in
theorem right12_any (x : We) (e : Ev) (W : World) : Calls Try.prog 17 #[.agg (envC x e)] W fun r W' => r = .returned (.bool (decide (RightE e))) ∧ Below W.heap.size W W' := by
  obtain ⟨V, C, hC, hV, hb, hg⟩ := bxE1 W x e
  have HB := Lib.hid hb
  have HV := Lib.hid hV
  have HG := Lib.hid hg
  rw [← hC]
  obtain ⟨D, hD⟩ : ∃ D, D = decide (RightE e) := ⟨_, rfl⟩
  rw [← hD]
  have HDE := Lib.hid (show D = (decide (PartsE e) && decide (e.tag.length = 16)) from by
    rw [hD, Bool.eq_iff_iff]
    simp only [Bool.and_eq_true, decide_eq_true_eq]
    exact Iff.rfl)
  have CP := Lib.hid (fun w => parts12_any x e w)
  have HC := Lib.hid (fun w (h : BxE w W.heap.size x e) => (show w.cell? ⟨W.heap.size, 7, none⟩ = some (.slice x.tag.1 e.tag.length x.tag.2) from h.cell rfl))
  clear hC hV hb hg hD
  generalize decide (PartsE e) = p at *
  go_enter Try.func17, Try.ntmps17
  go_upto_region 1 with (fail)
  rw [← HV.out]
  go_wp2_with (refine loadX (.tmp 1) W.heap.size (envC x e) tyEnv rfl HG.out rfl rfl rfl ?_)
  refine (CP.out _).mono ?_
  rintro r w1 ⟨rfl, hb⟩
  have HB1 := Lib.hid (belG HB.out hb HB.out.size)
  have x7 := HC.out w1 (Bx.go HG.out hb)
  have HD := HDE.out
  clear hb HB CP HDE HC HG
  generalize e.tag.length = m at *
  cases p with
  | false =>
    obtain rfl : D = false := HD.trans (by simp)
    clear HD
    go_wp2_with fail
    go_ret
    exact ⟨by first | rfl | simp, HB1.out⟩
  | true =>
    by_cases h : m = 16
    · subst h
      obtain rfl : D = true := HD.trans (by simp)
      clear HD
      go_wp2_with fail
      go_ret
      exact ⟨by first | rfl | simp, HB1.out⟩
    · obtain rfl : D = false := HD.trans (by rw [decide_eq_false h]; rfl)
      have h1 : ((m : Int) == 16) = false := beq_eq_false_iff_ne.2 (by omega)
      have h2 : (m == 16) = false := beq_eq_false_iff_ne.2 h
      clear HD
      go_wp2_with fail
      go_ret
      exact ⟨by first | rfl | simp | (simp; omega), HB1.out⟩
set_option maxRecDepth 100000 in
theorem few12_any (x : We) (e : Ev) (W : World) : Calls Try.prog 10 #[.agg (envC x e)] W fun r W' => r = .returned (.bool (decide (fewE e))) ∧ Below W.heap.size W W' := by
  obtain ⟨V, C, hC, hV, hb, hg⟩ := bxE1 W x e
  have HB := Lib.hid hb
  have HV := Lib.hid hV
  have x6 : V.cell? ⟨W.heap.size, 6, none⟩ = some (.slice x.body.1 e.body.length x.body.2) := hg.cell rfl
  have x7 : V.cell? ⟨W.heap.size, 7, none⟩ = some (.slice x.tag.1 e.tag.length x.tag.2) := hg.cell rfl
  rw [← hC]
  obtain ⟨D, hD⟩ : ∃ D, D = decide (fewE e) := ⟨_, rfl⟩
  rw [← hD]
  have HD := Lib.hid (show D = (decide (e.body.length ≤ 1000) && decide (e.tag.length ≤ 100)) from by rw [hD, Bool.eq_iff_iff]; simp only [Bool.and_eq_true, decide_eq_true_eq]; exact Iff.rfl)
  clear hD
  generalize e.body.length = n at *
  generalize e.tag.length = m at *
  clear hC hV hb hg
  by_cases h1 : n ≤ 1000
  · have h1i : (n : Int) ≤ 1000 := by omega
    have h1d : decide (n ≤ 1000) = true := decide_eq_true h1
    by_cases h2 : m ≤ 100
    · have h2i : (m : Int) ≤ 100 := by omega
      have h2d : decide (m ≤ 100) = true := decide_eq_true h2
      obtain rfl : D = true := HD.out.trans (by rw [h1d, h2d]; rfl)
      clear HD
      go_enter Try.func10, Try.ntmps10
      go_upto_region 1 with (fail)
      rw [← HV.out]
      go_wp2_with fail
      go_ret
      exact ⟨by first | rfl | simp, HB.out⟩
    · have h2i : ¬ (m : Int) ≤ 100 := by omega
      have h2d : decide (m ≤ 100) = false := decide_eq_false h2
      obtain rfl : D = false := HD.out.trans (by rw [h1d, h2d]; rfl)
      clear HD
      go_enter Try.func10, Try.ntmps10
      go_upto_region 1 with (fail)
      rw [← HV.out]
      go_wp2_with fail
      go_ret
      exact ⟨by first | rfl | simp | (simp; omega), HB.out⟩
  · have h1i : ¬ (n : Int) ≤ 1000 := by omega
    have h1d : decide (n ≤ 1000) = false := decide_eq_false h1
    obtain rfl : D = false := HD.out.trans (by rw [h1d]; rfl)
    clear HD
    go_enter Try.func10, Try.ntmps10
    go_upto_region 1 with (fail)
    rw [← HV.out]
    go_wp2_with fail
    go_ret
    exact ⟨by first | rfl | simp | (simp; omega), HB.out⟩
end Go.Proofs.Ytjkkceecagbjjaa
/- The document's answers (env): Same. -/

namespace Go.Proofs.Ytjkkceecagbjjaa
open Go.RowKit

set_option maxRecDepth 100000 in
theorem bxE2 (W : World) (x y : We) (r s : Ev) : ∃ V C D, C = envC x r ∧ D = envC y s ∧ V = (W.alloc (.cells C 25)).alloc (.cells D 25) ∧ Below W.heap.size W V ∧ BxE V W.heap.size x r ∧ BxE V (W.heap.size + 1) y s ∧ V.heap.size = W.heap.size + 2 := by
  obtain ⟨V, h1, h2, h3, h4, h5⟩ := bx2 W 25 25 (envC x r) (envC y s)
  exact ⟨V, _, _, rfl, rfl, h1, h2, h3, h4, h5⟩
set_option maxRecDepth 100000 in
set_option maxHeartbeats 4000000 in
theorem same12_any (x y : We) (a b : Ev) (W : World) (hx : EnvR W x a) (hy : EnvR W y b) : Calls Try.prog 19 #[.agg (envC x a), .agg (envC y b)] W fun r W' => r = .returned (.bool (decide (a = b))) ∧ Below W.heap.size W W' := by
  obtain ⟨V, C, D, hC, hD, hV, hb, k1, k2, -⟩ := bxE2 W x y a b
  have CB := Lib.hid (same_any x.body.1 y.body.1 a.body b.body x.body.2 y.body.2 _ _ V (hx.go hb).1.2.2 (hy.go hb).1.2.2)
  have CT := Lib.hid (same_any x.tag.1 y.tag.1 a.tag b.tag x.tag.2 y.tag.2 _ _ V (hx.go hb).2.2.2 (hy.go hb).2.2.2)
  rw [← hC, ← hD]
  have x0 : V.cell? ⟨W.heap.size, 0, none⟩ = some (.int .i64 a.kind) := k1.cell rfl
  have y0 : V.cell? ⟨W.heap.size + 1, 0, none⟩ = some (.int .i64 b.kind) := k2.cell rfl
  have x1 : V.cell? ⟨W.heap.size, 1, none⟩ = some (.int .i64 a.dir) := k1.cell rfl
  have y1 : V.cell? ⟨W.heap.size + 1, 1, none⟩ = some (.int .i64 b.dir) := k2.cell rfl
  have x2 : V.cell? ⟨W.heap.size, 2, none⟩ = some (.int .i64 a.e0) := k1.cell rfl
  have y2 : V.cell? ⟨W.heap.size + 1, 2, none⟩ = some (.int .i64 b.e0) := k2.cell rfl
  have x3 : V.cell? ⟨W.heap.size, 3, none⟩ = some (.int .i64 a.e1) := k1.cell rfl
  have y3 : V.cell? ⟨W.heap.size + 1, 3, none⟩ = some (.int .i64 b.e1) := k2.cell rfl
  have x4 : V.cell? ⟨W.heap.size, 4, none⟩ = some (.int .i64 a.gen) := k1.cell rfl
  have y4 : V.cell? ⟨W.heap.size + 1, 4, none⟩ = some (.int .i64 b.gen) := k2.cell rfl
  have x5 : V.cell? ⟨W.heap.size, 5, none⟩ = some (.int .i64 a.seq) := k1.cell rfl
  have y5 : V.cell? ⟨W.heap.size + 1, 5, none⟩ = some (.int .i64 b.seq) := k2.cell rfl
  have x6 : V.cell? ⟨W.heap.size, 6, none⟩ = some (.slice x.body.1 a.body.length x.body.2) := k1.cell rfl
  have y6 : V.cell? ⟨W.heap.size + 1, 6, none⟩ = some (.slice y.body.1 b.body.length y.body.2) := k2.cell rfl
  have x7 : V.cell? ⟨W.heap.size, 7, none⟩ = some (.slice x.tag.1 a.tag.length x.tag.2) := k1.cell rfl
  have y7 : V.cell? ⟨W.heap.size + 1, 7, none⟩ = some (.slice y.tag.1 b.tag.length y.tag.2) := k2.cell rfl
  have HB := Lib.hid hb
  have HV := Lib.hid hV
  obtain ⟨R, hR⟩ : ∃ R, R = decide (a = b) := ⟨_, rfl⟩
  rw [← hR]
  have HR := Lib.hid (show R = (decide (a.kind = b.kind) && decide (a.dir = b.dir) && decide (a.e0 = b.e0) && decide (a.e1 = b.e1) && decide (a.gen = b.gen) && decide (a.seq = b.seq) && decide (a.body = b.body) && decide (a.tag = b.tag)) from by
    rw [hR, Bool.eq_iff_iff]
    simp only [Bool.and_eq_true, decide_eq_true_eq]
    exact ⟨fun e => by subst e; exact ⟨⟨⟨⟨⟨⟨⟨rfl, rfl⟩, rfl⟩, rfl⟩, rfl⟩, rfl⟩, rfl⟩, rfl⟩, fun h => Ev.ext' h.1.1.1.1.1.1.1 h.1.1.1.1.1.1.2 h.1.1.1.1.1.2 h.1.1.1.1.2 h.1.1.1.2 h.1.1.2 h.1.2 h.2⟩)
  generalize decide (a.body = b.body) = p at *
  generalize decide (a.tag = b.tag) = q at *
  generalize a.body.length = n1 at *
  generalize b.body.length = m1 at *
  generalize a.tag.length = n2 at *
  generalize b.tag.length = m2 at *
  generalize a.kind = s0 at *
  generalize b.kind = t0 at *
  generalize a.dir = s1 at *
  generalize b.dir = t1 at *
  generalize a.e0 = s2 at *
  generalize b.e0 = t2 at *
  generalize a.e1 = s3 at *
  generalize b.e1 = t3 at *
  generalize a.gen = s4 at *
  generalize b.gen = t4 at *
  generalize a.seq = s5 at *
  generalize b.seq = t5 at *
  clear hC hD hV hb k1 k2 hR hx hy
  have HD := HR.out
  clear HR
  go_enter Try.func19, Try.ntmps19
  go_upto_region 1 with (fail)
  rw [← HV.out]
  clear HV
  by_cases c0 : s0 = t0
  · subst c0
    by_cases c1 : s1 = t1
    · subst c1
      by_cases c2 : s2 = t2
      · subst c2
        by_cases c3 : s3 = t3
        · subst c3
          by_cases c4 : s4 = t4
          · subst c4
            by_cases c5 : s5 = t5
            · subst c5
              go_wp2_with fail
              refine CB.out.mono ?_
              rintro r w1 ⟨rfl, hw⟩
              obtain rfl := hw
              cases p with
              | false =>
                obtain rfl : R = false := HD.trans (by simp)
                clear HD
                go_wp2_with fail
                go_ret
                exact ⟨by first | rfl | (simp; done) | (simp [*]; done), HB.out⟩
              | true =>
                obtain rfl : R = q := HD.trans (by simp)
                clear HD
                go_wp2_with fail
                refine CT.out.mono ?_
                rintro r w1 ⟨rfl, hw⟩
                obtain rfl := hw
                go_wp2_with fail
                go_ret
                exact ⟨by first | rfl | (simp; done) | (simp [*]; done), HB.out⟩
            · have d5 : (s5 == t5) = false := beq_eq_false_iff_ne.2 c5
              obtain rfl : R = false := HD.trans (by rw [decide_eq_false c5]; simp)
              clear HD
              go_wp2_with fail
              go_ret
              exact ⟨by first | rfl | (simp; done) | (simp [*]; done), HB.out⟩
          · have d4 : (s4 == t4) = false := beq_eq_false_iff_ne.2 c4
            obtain rfl : R = false := HD.trans (by rw [decide_eq_false c4]; simp)
            clear HD
            go_wp2_with fail
            go_ret
            exact ⟨by first | rfl | (simp; done) | (simp [*]; done), HB.out⟩
        · have d3 : (s3 == t3) = false := beq_eq_false_iff_ne.2 c3
          obtain rfl : R = false := HD.trans (by rw [decide_eq_false c3]; simp)
          clear HD
          go_wp2_with fail
          go_ret
          exact ⟨by first | rfl | (simp; done) | (simp [*]; done), HB.out⟩
      · have d2 : (s2 == t2) = false := beq_eq_false_iff_ne.2 c2
        obtain rfl : R = false := HD.trans (by rw [decide_eq_false c2]; simp)
        clear HD
        go_wp2_with fail
        go_ret
        exact ⟨by first | rfl | (simp; done) | (simp [*]; done), HB.out⟩
    · have d1 : (s1 == t1) = false := beq_eq_false_iff_ne.2 c1
      obtain rfl : R = false := HD.trans (by rw [decide_eq_false c1]; simp)
      clear HD
      go_wp2_with fail
      go_ret
      exact ⟨by first | rfl | (simp; done) | (simp [*]; done), HB.out⟩
  · have d0 : (s0 == t0) = false := beq_eq_false_iff_ne.2 c0
    obtain rfl : R = false := HD.trans (by rw [decide_eq_false c0]; simp)
    clear HD
    go_wp2_with fail
    go_ret
    exact ⟨by first | rfl | (simp; done) | (simp [*]; done), HB.out⟩
end Go.Proofs.Ytjkkceecagbjjaa
/- shown: the document's examples -/

namespace Go.Proofs.Ytjkkceecagbjjaa
open Go.RowKit

set_option maxRecDepth 100000 in
theorem ex_big (W : World) : Calls Try.prog 27 #[.int .i64 258, .int .i64 2] W fun e W' => Ans W' e [1, 2] 2 (.int .i64 0) ∧ Below W.heap.size W W' :=
  (big_any 258 2 W (by omega) (by omega) (by omega)).mono fun e W' h => ⟨by
    have h1 := h.1
    unfold BigR at h1
    rw [if_pos (by omega)] at h1
    exact Ans.of _ h1 rfl, h.2⟩
set_option maxRecDepth 100000 in
theorem ex_takeBig (W : World) (A : Option Addr) (c : Nat) (hc : 2 ≤ c) (hr : Rd W W.heap.size A [1, 2]) : Calls Try.prog 32 #[.slice A 2 c, .int .i64 0, .int .i64 2] W fun e W' => e = .returned (.tuple #[.int .i64 258, .int .i64 2, .int .i64 0]) ∧ W = W' :=
  (takeBig_any A [1, 2] c 0 2 W (by omega) (by omega) (by decide) (by decide) hc hr).mono fun e W' h => ⟨h.1.trans (by rfl), h.2⟩
set_option maxRecDepth 100000 in
theorem ex_same (W : World) (A B : Option Addr) (c d : Nat) (ha : Rd W W.heap.size A [1, 35, 69]) (hb : Rd W W.heap.size B [1, 35, 69]) : Calls Try.prog 15 #[.slice A 3 c, .slice B 3 d] W fun e W' => e = .returned (.bool true) ∧ W = W' :=
  (same_any A B [1, 35, 69] [1, 35, 69] c d _ _ W ha hb).mono fun e W' h => ⟨h.1.trans (by rfl), h.2⟩

end Go.Proofs.Ytjkkceecagbjjaa
