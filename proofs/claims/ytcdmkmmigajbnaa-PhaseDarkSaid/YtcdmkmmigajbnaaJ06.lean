
/- The document's answers (phase). -/
import Derived.Test.YtcdmkmmigajbnaaJ04
import Derived.Test.YtcdmkmmigajbnaaJ05
import Derived.LoopN
import Derived.Maps.OwnSet
namespace Go.Proofs.Ytcdmkmmigajbnaa
open Go.RowKit

/-- the rows' cells -/
def csP (l : List (Int × Int × Int)) : List Value := l.flatMap fun r => [Value.int .i64 r.1, Value.int .i64 r.2.1, Value.int .i64 r.2.2]
set_option maxRecDepth 100000 in
theorem csP_at : ∀ (l : List (Int × Int × Int)) (k : Nat) (h : k < l.length), (csP l)[k * 3]? = some (Value.int .i64 l[k].1) ∧ (csP l)[k * 3 + 1]? = some (Value.int .i64 l[k].2.1) ∧ (csP l)[k * 3 + 2]? = some (Value.int .i64 l[k].2.2)
  | r :: l, 0, _ => ⟨rfl, rfl, rfl⟩
  | r :: l, k + 1, h => by
    have ih := csP_at l k (by simpa using h)
    have e : ∀ j, (csP (r :: l))[(k + 1) * 3 + j]? = (csP l)[k * 3 + j]? := fun j => by
      show (Value.int .i64 r.1 :: Value.int .i64 r.2.1 :: Value.int .i64 r.2.2 :: csP l)[(k + 1) * 3 + j]? = _
      rw [show (k + 1) * 3 + j = (k * 3 + j) + 1 + 1 + 1 by omega]
      rfl
    exact ⟨(e 0).trans ih.1, (e 1).trans ih.2.1, (e 2).trans ih.2.2⟩
set_option maxRecDepth 100000 in
theorem rowsP_cells {w : World} {g : Nat} {t : TypeId} (h : Bx w g t (csP rowsP).toArray) (k : Nat) (hk : k < 44) : ∃ r, r ∈ rowsP ∧ rowsP[k]? = some r ∧ w.cell? ⟨g, k * 3, none⟩ = some (.int .i64 r.1) ∧ w.cell? ⟨g, k * 3 + 1, none⟩ = some (.int .i64 r.2.1) ∧ w.cell? ⟨g, k * 3 + 2, none⟩ = some (.int .i64 r.2.2) := by
  have hl : k < rowsP.length := hk
  obtain ⟨h1, h2, h3⟩ := csP_at rowsP k hl
  exact ⟨rowsP[k], List.getElem_mem hl, List.getElem?_eq_getElem hl, h.cell (by rw [List.getElem?_toArray]; exact h1), h.cell (by rw [List.getElem?_toArray]; exact h2), h.cell (by rw [List.getElem?_toArray]; exact h3)⟩
set_option maxRecDepth 100000 in
/-- nothing follows where no row tells it -/
theorem next_none {p v : Int} (h : ∀ j, j < 44 → ∀ r, rowsP[j]? = some r → ¬ (r.1 = p ∧ r.2.1 = v)) : nextP p v = (p, false) := by
  rcases next_is p v with h1 | ⟨r, hr, h2, h3, -⟩
  · exact h1.1
  · obtain ⟨j, hj, e⟩ := List.getElem_of_mem hr
    exact absurd ⟨h2, h3⟩ (h j hj r (by rw [List.getElem?_eq_getElem hj, e]))
set_option maxRecDepth 100000 in
set_option maxHeartbeats 1000000 in
theorem next14_any (p v : Int) (W : World) : Calls Try.prog 11 #[.int .i64 p, .int .i64 v] W fun e W' => e = .returned (.tuple #[.int .i64 (nextP p v).1, .bool (nextP p v).2]) ∧ Below W.heap.size W W' := by
  obtain ⟨V, hV, hb, hx⟩ := bx1 W 37 (csP rowsP).toArray
  have HB := Lib.hid hb
  have HX := Lib.hid hx
  have HV := Lib.hid (show V = W.alloc (.cells #[.int .i64 0, .int .i64 0, .int .i64 1, .int .i64 0, .int .i64 2, .int .i64 2, .int .i64 0, .int .i64 10, .int .i64 8, .int .i64 1, .int .i64 0, .int .i64 1, .int .i64 1, .int .i64 1, .int .i64 3, .int .i64 1, .int .i64 2, .int .i64 2, .int .i64 1, .int .i64 4, .int .i64 0, .int .i64 1, .int .i64 9, .int .i64 0, .int .i64 1, .int .i64 10, .int .i64 8, .int .i64 2, .int .i64 0, .int .i64 1, .int .i64 2, .int .i64 2, .int .i64 2, .int .i64 2, .int .i64 3, .int .i64 3, .int .i64 2, .int .i64 4, .int .i64 0, .int .i64 2, .int .i64 10, .int .i64 8, .int .i64 3, .int .i64 0, .int .i64 1, .int .i64 3, .int .i64 2, .int .i64 2, .int .i64 3, .int .i64 4, .int .i64 6, .int .i64 3, .int .i64 5, .int .i64 0, .int .i64 3, .int .i64 6, .int .i64 4, .int .i64 3, .int .i64 7, .int .i64 5, .int .i64 3, .int .i64 9, .int .i64 0, .int .i64 3, .int .i64 10, .int .i64 8, .int .i64 4, .int .i64 0, .int .i64 1, .int .i64 4, .int .i64 2, .int .i64 2, .int .i64 4, .int .i64 4, .int .i64 6, .int .i64 4, .int .i64 5, .int .i64 0, .int .i64 4, .int .i64 8, .int .i64 3, .int .i64 4, .int .i64 9, .int .i64 3, .int .i64 4, .int .i64 10, .int .i64 8, .int .i64 5, .int .i64 0, .int .i64 1, .int .i64 5, .int .i64 2, .int .i64 2, .int .i64 5, .int .i64 4, .int .i64 6, .int .i64 5, .int .i64 5, .int .i64 0, .int .i64 5, .int .i64 8, .int .i64 3, .int .i64 5, .int .i64 9, .int .i64 3, .int .i64 5, .int .i64 10, .int .i64 8, .int .i64 6, .int .i64 0, .int .i64 1, .int .i64 6, .int .i64 2, .int .i64 2, .int .i64 6, .int .i64 5, .int .i64 0, .int .i64 6, .int .i64 9, .int .i64 0, .int .i64 6, .int .i64 10, .int .i64 8, .int .i64 7, .int .i64 10, .int .i64 8, .int .i64 8, .int .i64 11, .int .i64 0, .int .i64 8, .int .i64 12, .int .i64 7] 37) from hV)
  clear hV hb hx
  go_enter Try.func11, Try.ntmps11
  go_upto_region 1 with (fail)
  go_cut [6] (fun t6 wx => t6 = .slice (some ⟨W.heap.size, 0, none⟩) 44 44 ∧ wx = V)
  case first =>
    go_wp2_with fail
    go_meet
    case rel => exact ⟨rfl, HV.out.symm⟩
  case rest =>
  obtain ⟨rfl, hw⟩ := hcut
  obtain rfl := hw
  clear HV
  go_wp2_with fail
  go_loopw [7] (fun i wr => ∃ k : Nat, k ≤ 44 ∧ i = .int .i64 k ∧ wr = wc ∧ Hid (∀ j, j < k → ∀ r, rowsP[j]? = some r → ¬ (r.1 = p ∧ r.2.1 = v))) (fun i _ => 44 - (intOf i).toNat)
  case atStart => exact ⟨0, by omega, rfl, rfl, Lib.hid (fun j h => absurd h (Nat.not_lt_zero j))⟩
  case round =>
    obtain ⟨k, hk, rfl, hw, hno⟩ := hrel
    obtain rfl := hw
    have hk0 : (0 : Int) ≤ (k : Int) := Int.natCast_nonneg _
    by_cases hlt : k < 44
    · have hki : (k : Int) < 44 := by omega
      obtain ⟨r, hr, hrk, c0, c1, c2⟩ := rowsP_cells HX.out k hlt
      have HR := Lib.hid hr
      have HRK := Lib.hid hrk
      have HNX := Lib.hid (next_row hr)
      obtain ⟨a, b, c⟩ := r
      simp only at c0 c1 c2 HNX
      clear hr hrk
      by_cases h1 : a = p
      · subst h1
        by_cases h2 : b = v
        · subst h2
          clear hno
          go_wp2_with fail
          go_ret2
          exact ⟨by rw [HNX.out]; rfl, HB.out⟩
        · have h3 : (b == v) = false := beq_eq_false_iff_ne.2 h2
          have HH := Lib.hid h2
          clear h2
          go_wp2_with fail
          go_roundw
          case rel =>
            refine ⟨k + 1, by omega, by go_num, by first | rfl | trivial, Lib.hid (fun j hj r hr hm => ?_)⟩
            by_cases hjk : j = k
            · subst hjk
              obtain rfl := Option.some.inj (hr.symm.trans HRK.out)
              exact HH.out hm.2
            · exact hno.out j (by omega) r hr hm
          case measure => simp [intOf]; omega
      · have h3 : (a == p) = false := beq_eq_false_iff_ne.2 h1
        have HH := Lib.hid h1
        clear h1
        go_wp2_with fail
        go_roundw
        case rel =>
          refine ⟨k + 1, by omega, by go_num, by first | rfl | trivial, Lib.hid (fun j hj r hr hm => ?_)⟩
          by_cases hjk : j = k
          · subst hjk
            obtain rfl := Option.some.inj (hr.symm.trans HRK.out)
            exact HH.out hm.1
          · exact hno.out j (by omega) r hr hm
        case measure => simp [intOf]; omega
    · obtain rfl : k = 44 := by omega
      have HNX := Lib.hid (next_none hno.out)
      clear hno
      go_wp2_with fail
      go_ret2
      exact ⟨by rw [HNX.out]; rfl, HB.out⟩
set_option maxRecDepth 100000 in
theorem gate14_any (p : Int) (W : World) : Calls Try.prog 13 #[.int .i64 p] W fun e W' => e = .returned (.bool (gateP p)) ∧ W = W' := by
  rcases (show p = 3 ∨ p = 4 ∨ p = 5 ∨ (p ≠ 3 ∧ p ≠ 4 ∧ p ≠ 5) by omega) with rfl | rfl | rfl | ⟨h1, h2, h3⟩
  · rw [show gateP 3 = true from rfl]
    go_enter Try.func13, Try.ntmps13
    go_wp2
    go_ret
    exact ⟨by first | rfl | (simp; done), by first | rfl | trivial⟩
  · rw [show gateP 4 = true from rfl]
    go_enter Try.func13, Try.ntmps13
    go_wp2
    go_ret
    exact ⟨by first | rfl | (simp; done), by first | rfl | trivial⟩
  · rw [show gateP 5 = true from rfl]
    go_enter Try.func13, Try.ntmps13
    go_wp2
    go_ret
    exact ⟨by first | rfl | (simp; done), by first | rfl | trivial⟩
  · rw [show gateP p = false from decide_eq_false (by omega)]
    have d1 : (p == 3) = false := beq_eq_false_iff_ne.2 h1
    have d2 : (p == 4) = false := beq_eq_false_iff_ne.2 h2
    have d3 : (p == 5) = false := beq_eq_false_iff_ne.2 h3
    clear h1 h2 h3
    go_enter Try.func13, Try.ntmps13
    go_wp2
    go_ret
    exact ⟨by first | rfl | (simp; done), by first | rfl | trivial⟩
set_option maxRecDepth 100000 in
theorem linked14_any (p : Int) (W : World) : Calls Try.prog 15 #[.int .i64 p] W fun e W' => e = .returned (.bool (linkedP p)) ∧ W = W' := by
  by_cases h1 : 2 ≤ p
  · by_cases h2 : p ≤ 6
    · rw [show linkedP p = true from decide_eq_true ⟨h1, h2⟩]
      go_enter Try.func15, Try.ntmps15
      go_wp2
      go_ret
      exact ⟨by first | rfl | (simp; done), by first | rfl | trivial⟩
    · rw [show linkedP p = false from decide_eq_false (fun h => h2 h.2)]
      go_enter Try.func15, Try.ntmps15
      go_wp2
      go_ret
      exact ⟨by first | rfl | (simp; done), by first | rfl | trivial⟩
  · rw [show linkedP p = false from decide_eq_false (fun h => h1 h.1)]
    go_enter Try.func15, Try.ntmps15
    go_wp2
    go_ret
    exact ⟨by first | rfl | (simp; done), by first | rfl | trivial⟩
set_option maxRecDepth 100000 in
set_option maxHeartbeats 1000000 in
theorem name14_any (p : Int) (W : World) : Calls Try.prog 17 #[.int .i64 p] W fun e W' => e = .returned (.string ⟨(nameP p).toArray⟩) ∧ Below W.heap.size W W' := by
  have HB := Lib.hid ((Below.refl W.heap.size W).alloc (Nat.le_refl _) (.cells #[.string ⟨#[111, 102, 102]⟩, .string ⟨#[97, 115, 107, 101, 100]⟩, .string ⟨#[116, 111, 108, 100]⟩, .string ⟨#[111, 112, 101, 110]⟩, .string ⟨#[114, 101, 107, 101, 121]⟩, .string ⟨#[99, 117, 116, 116, 105, 110, 103]⟩, .string ⟨#[99, 108, 111, 115, 105, 110, 103]⟩, .string ⟨#[102, 97, 105, 108, 101, 100]⟩, .string ⟨#[100, 97, 114, 107]⟩] 9))
  have hx := Bx.new W 9 #[.string ⟨#[111, 102, 102]⟩, .string ⟨#[97, 115, 107, 101, 100]⟩, .string ⟨#[116, 111, 108, 100]⟩, .string ⟨#[111, 112, 101, 110]⟩, .string ⟨#[114, 101, 107, 101, 121]⟩, .string ⟨#[99, 117, 116, 116, 105, 110, 103]⟩, .string ⟨#[99, 108, 111, 115, 105, 110, 103]⟩, .string ⟨#[102, 97, 105, 108, 101, 100]⟩, .string ⟨#[100, 97, 114, 107]⟩]
  by_cases h0 : p < 0
  · rw [show nameP p = [] from by unfold nameP; rw [if_neg (by omega)]]
    clear hx
    go_enter Try.func17, Try.ntmps17
    go_wp2
    go_ret
    exact ⟨by first | rfl | (simp; done), HB.out⟩
  by_cases h8 : 8 < p
  · rw [show nameP p = [] from by unfold nameP; rw [if_neg (by omega)]]
    clear hx
    go_enter Try.func17, Try.ntmps17
    go_wp2
    go_ret
    exact ⟨by first | rfl | (simp; done), HB.out⟩
  rcases (show p = 0 ∨ p = 1 ∨ p = 2 ∨ p = 3 ∨ p = 4 ∨ p = 5 ∨ p = 6 ∨ p = 7 ∨ p = 8 by omega) with rfl | rfl | rfl | rfl | rfl | rfl | rfl | rfl | rfl
  · have hc := hx.cell (j := 0) rfl
    clear hx
    go_enter Try.func17, Try.ntmps17
    go_wp2
    go_ret
    exact ⟨by first | rfl | (simp; done), HB.out⟩
  · have hc := hx.cell (j := 1) rfl
    clear hx
    go_enter Try.func17, Try.ntmps17
    go_wp2
    go_ret
    exact ⟨by first | rfl | (simp; done), HB.out⟩
  · have hc := hx.cell (j := 2) rfl
    clear hx
    go_enter Try.func17, Try.ntmps17
    go_wp2
    go_ret
    exact ⟨by first | rfl | (simp; done), HB.out⟩
  · have hc := hx.cell (j := 3) rfl
    clear hx
    go_enter Try.func17, Try.ntmps17
    go_wp2
    go_ret
    exact ⟨by first | rfl | (simp; done), HB.out⟩
  · have hc := hx.cell (j := 4) rfl
    clear hx
    go_enter Try.func17, Try.ntmps17
    go_wp2
    go_ret
    exact ⟨by first | rfl | (simp; done), HB.out⟩
  · have hc := hx.cell (j := 5) rfl
    clear hx
    go_enter Try.func17, Try.ntmps17
    go_wp2
    go_ret
    exact ⟨by first | rfl | (simp; done), HB.out⟩
  · have hc := hx.cell (j := 6) rfl
    clear hx
    go_enter Try.func17, Try.ntmps17
    go_wp2
    go_ret
    exact ⟨by first | rfl | (simp; done), HB.out⟩
  · have hc := hx.cell (j := 7) rfl
    clear hx
    go_enter Try.func17, Try.ntmps17
    go_wp2
    go_ret
    exact ⟨by first | rfl | (simp; done), HB.out⟩
  · have hc := hx.cell (j := 8) rfl
    clear hx
    go_enter Try.func17, Try.ntmps17
    go_wp2
    go_ret
    exact ⟨by first | rfl | (simp; done), HB.out⟩
set_option maxRecDepth 100000 in
set_option maxHeartbeats 1000000 in
theorem run14_any (p : Int) (A : Option Addr) (l : List Int) (c : Nat) (W : World) (hl : l.length ≤ 1000000) (hr : RdI W W.heap.size A l) :
    Calls Try.prog 19 #[.int .i64 p, .slice A l.length c] W fun e W' => e = .returned (.tuple #[.int .i64 (runP p l).1, .int .i64 (runP p l).2]) ∧ Below W.heap.size W W' := by
  obtain ⟨n, hn⟩ : ∃ n, n = l.length := ⟨_, rfl⟩
  have HN := Lib.hid hn
  have HC := Lib.hid (fun (i : Nat) (h : i < l.length) w (hb : Below W.heap.size W w) => (show ∃ b o, A = some ⟨b, o, none⟩ ∧ w.cell? ⟨b, o + i, none⟩ = some (.int .i64 l[i]) from by
    obtain ⟨b, o, e, h1, h2⟩ := hr.at_ h
    exact ⟨b, o, e, (hb.cell (p := ⟨b, o + i, none⟩) h1).trans h2⟩))
  have CN := Lib.hid (fun p v w => next14_any p v w)
  have HK := Lib.hid (fun k => run_count p (l.take k))
  rw [← hn]
  rw [← hn] at hl
  clear hn hr
  go_enter Try.func19, Try.ntmps19
  go_wp2_with fail
  go_loopw [0, 6, 7] (fun q m i wr => ∃ k : Nat, k ≤ n ∧ q = .int .i64 (runP p (l.take k)).1 ∧ m = .int .i64 (runP p (l.take k)).2 ∧ i = .int .i64 k ∧ Below W.heap.size W wr) (fun _ _ i _ => n - (intOf i).toNat)
  case atStart => exact ⟨0, by omega, rfl, rfl, rfl, Below.refl _ _⟩
  case round =>
    obtain ⟨k, hk, rfl, rfl, rfl, hb⟩ := hrel
    have HB := Lib.hid hb
    clear hb
    have hk0 : (0 : Int) ≤ (k : Int) := Int.natCast_nonneg _
    by_cases hlt : k < n
    · have hki : (k : Int) < (n : Int) := by omega
      have hkl : k < l.length := by rw [← HN.out]; exact hlt
      obtain ⟨b, o, hA, hc⟩ := HC.out k hkl wr HB.out
      subst hA
      have hs := run_snoc p (l.take k) l[k]
      rw [show l.take k ++ [l[k]] = l.take (k + 1) from by rw [List.take_succ_eq_append_getElem hkl]] at hs
      have hcnt := HK.out k
      have hlk : ((l.take k).length : Int) ≤ 1000000 := by rw [List.length_take]; omega
      have HS := Lib.hid hs
      obtain ⟨q, hq⟩ : ∃ q, q = (runP p (l.take k)).1 := ⟨_, rfl⟩
      obtain ⟨m, hm⟩ : ∃ m, m = (runP p (l.take k)).2 := ⟨_, rfl⟩
      rw [← hm] at hcnt
      have hm0 : 0 ≤ m := hcnt.1
      have hm1 : m ≤ 1000000 := by omega
      rw [← hq, ← hm] at HS
      simp only [← hq, ← hm]
      have C := Lib.hid (CN.out q l[k] wr)
      generalize l[k] = u at *
      clear hs hcnt hq hm hlk HK HC CN hkl
      go_wp2_with fail
      refine C.out.mono ?_
      rintro e w1 ⟨rfl, hb⟩
      have HB1 := Lib.hid (belG HB.out hb HB.out.size)
      clear hb C hc
      cases h2 : (nextP q u).2 with
      | true =>
        have e1 : (runP p (l.take (k + 1))).1 = (nextP q u).1 := by rw [HS.out]
        have e2 : (runP p (l.take (k + 1))).2 = m + 1 := by rw [HS.out, h2]; rfl
        have E1 := Lib.hid e1
        have E2 := Lib.hid e2
        clear e1 e2 h2 HS
        go_wp2_with fail
        go_roundw
        case rel => exact ⟨k + 1, by omega, by rw [E1.out], by (rw [E2.out]; try go_num), by go_num, HB1.out⟩
        case measure => simp [intOf]; omega
      | false =>
        have e1 : (runP p (l.take (k + 1))).1 = (nextP q u).1 := by rw [HS.out]
        have e2 : (runP p (l.take (k + 1))).2 = m := by rw [HS.out, h2]; simp
        have E1 := Lib.hid e1
        have E2 := Lib.hid e2
        clear e1 e2 h2 HS
        go_wp2_with fail
        go_roundw
        case rel => exact ⟨k + 1, by omega, by rw [E1.out], by rw [E2.out], by go_num, HB1.out⟩
        case measure => simp [intOf]; omega
    · obtain rfl : k = n := by omega
      have hall : l.take k = l := by rw [HN.out]; exact List.take_length
      rw [hall]
      clear hall hlt HC HK
      go_wp2_with fail
      go_ret2
      exact ⟨by first | rfl | (simp; done), HB.out⟩
end Go.Proofs.Ytcdmkmmigajbnaa
/- Maps whose keys are whole numbers: what lies in the block, what a store and a look-up do. -/

namespace Go.Proofs.Ytcdmkmmigajbnaa
open Go.RowKit

/-- a map's entries, in the order in which they were made -/
def enM (q : IntKind) : Nat → List (Int × Value) → List MapEntry
  | _, [] => []
  | b, (k, v) :: r => { key := .int q k, val := v, born := b } :: enM q (b + 1) r
set_option maxRecDepth 100000 in
theorem enM_length (q : IntKind) : ∀ (l : List (Int × Value)) (b : Nat), (enM q b l).length = l.length
  | [], _ => rfl
  | _ :: r, b => by unfold enM; rw [List.length_cons, List.length_cons, enM_length q r]
set_option maxRecDepth 100000 in
theorem enM_snoc (q : IntKind) (k : Int) (v : Value) : ∀ (l : List (Int × Value)) (b : Nat), enM q b (l ++ [(k, v)]) = enM q b l ++ [{ key := .int q k, val := v, born := b + l.length }]
  | [], b => rfl
  | (k', v') :: r, b => by
    show _ :: enM q (b + 1) (r ++ [(k, v)]) = _ :: (enM q (b + 1) r ++ _)
    rw [enM_snoc q k v r (b + 1)]
    congr 3
    rw [List.length_cons]
    congr 1
    omega
def lookM : List (Int × Value) → Int → Option Value
  | [], _ => none
  | (k', v) :: r, k => if k = k' then some v else lookM r k
/-- the block g is a map that was made of these, one behind the other, no key twice -/
def MpI (q : IntKind) (w : World) (g : Nat) (l : List (Int × Value)) : Prop := w.heap[g]? = some (.map (enM q 0 l).toArray l.length)
set_option maxRecDepth 100000 in
theorem MpI.lt {q : IntKind} {w : World} {g : Nat} {l : List (Int × Value)} (h : MpI q w g l) : g < w.heap.size := (Array.getElem?_eq_some_iff.1 h).1
set_option maxRecDepth 100000 in
theorem MpI.go {q : IntKind} {w w' : World} {g : Nat} {l : List (Int × Value)} (h : MpI q w g l) (hb : Below w.heap.size w w') : MpI q w' g l := oldG h hb (Nat.le_refl _)
set_option maxRecDepth 100000 in
theorem MpI.new (q : IntKind) (w : World) : MpI q (w.alloc (.map #[] 0)) w.heap.size [] := heap_alloc_new w _
set_option maxRecDepth 100000 in
theorem MpI.alloc {q : IntKind} {w : World} {g : Nat} {l : List (Int × Value)} (h : MpI q w g l) (o : Obj) : MpI q (w.alloc o) g l := (heap_alloc_old w o h.lt).trans h
/-- the block's new map -/
def putM (w : World) (g : Nat) (o : Obj) : World := { w with heap := w.heap.setIfInBounds g o }
set_option maxRecDepth 100000 in
theorem findNow_M (q : IntKind) (k : Int) : ∀ (l : List (Int × Value)) (b i : Nat), ∃ j, Instr.findNow (.int q) (.int q k) (enM q b l) i = some ((lookM l k).map fun v => (j, v))
  | [], _, i => ⟨i, rfl⟩
  | (k', v) :: r, b, i => by
    unfold enM lookM
    unfold Instr.findNow
    have hs : Instr.sameNow (.int q) (.int q k) (.int q k') = some (k == k') := by simp [Instr.sameNow]
    simp only [hs]
    by_cases h : k = k'
    · subst h
      refine ⟨i, ?_⟩
      simp
    · rw [if_neg h]
      obtain ⟨j, hj⟩ := findNow_M q k r (b + 1) (i + 1)
      refine ⟨j, ?_⟩
      rw [beq_eq_false_iff_ne.2 h]
      exact hj
set_option maxRecDepth 100000 in
theorem run_checkKey_int {P : Program} {kt : TypeId} {q : IntKind} (hk : P.underlying kt = some (.int q)) (e : Bool) (v : Int) (w : World) : (Instr.checkKey e 10000 kt (.int q v)).run P w = .ok () w := by
  unfold Instr.checkKey
  simp [run_underlying hk]
set_option maxRecDepth 100000 in
theorem run_findKey_M {P : Program} {kt : TypeId} {q : IntKind} (hk : P.underlying kt = some (.int q)) (k : Int) (l : List (Int × Value)) (b : Nat) (w : World) : ∃ j, (Instr.findKey kt (.int q k) (enM q b l)).run P w = .ok ((lookM l k).map fun v => (j, v)) w := by
  obtain ⟨j, hj⟩ := findNow_M q k l b 0
  refine ⟨j, ?_⟩
  unfold Instr.findKey
  simp [run_underlying hk, hj]
set_option maxRecDepth 100000 in
/-- a new key's store -/
theorem run_putM {P : Program} {t kt et : TypeId} {q : IntKind} (ht : P.underlying t = some (.map kt et)) (hk : P.underlying kt = some (.int q)) {w : World} {g : Nat} {l : List (Int × Value)} (h : MpI q w g l) (k : Int) (v : Value) (hn : lookM l k = none) :
    (Instr.mapUpdate t (.map (some g)) (.int q k) v).run P w = .ok () (putM w g (.map (enM q 0 (l ++ [(k, v)])).toArray (l.length + 1))) := by
  obtain ⟨j, hj⟩ := run_findKey_M hk k l 0 w
  rw [hn] at hj
  unfold Instr.mapUpdate
  have e : (enM q 0 (l ++ [(k, v)])).toArray = (enM q 0 l).toArray.push { key := .int q k, val := v, born := l.length } := by
    rw [enM_snoc, Nat.zero_add]
    simp
  simp [run_underlying ht, MapKept.run_getObj_map h, run_checkKey_int hk, hj, MapKept.run_setObj_map _ h, e, putM]
set_option maxRecDepth 100000 in
theorem MpI.put {q : IntKind} {w : World} {g : Nat} {l : List (Int × Value)} (h : MpI q w g l) (k : Int) (v : Value) : MpI q (putM w g (.map (enM q 0 (l ++ [(k, v)])).toArray (l.length + 1))) g (l ++ [(k, v)]) := by
  unfold MpI putM
  rw [List.length_append]
  have := h.lt
  simp [this]
set_option maxRecDepth 100000 in
theorem putM_block (w : World) (g : Nat) (o : Obj) (k : Nat) (h : k ≠ g) : (putM w g o).heap[k]? = w.heap[k]? := by
  unfold putM
  simp [Ne.symm h]
set_option maxRecDepth 100000 in
theorem Below.putM {B : Nat} {a w : World} (h : Below B a w) {g : Nat} (hg : B ≤ g) (o : Obj) : Below B a (putM w g o) :=
  h.trans ⟨rfl, rfl, rfl, by simp [Go.Proofs.Ytcdmkmmigajbnaa.putM], fun k hk => putM_block w g o k (by omega)⟩
set_option maxRecDepth 100000 in
/-- a look-up, with 'ok' and without -/
theorem run_lookM {P : Program} {t kt et : TypeId} {q : IntKind} (ht : P.underlying t = some (.map kt et)) (hk : P.underlying kt = some (.int q)) {w : World} {g : Nat} {l : List (Int × Value)} (h : MpI q w g l) (k : Int) {z : Value} (hz : (zeroValue et).run P w = .ok z w) (ok : Bool) :
    (Instr.lookup t (.map (some g)) (.int q k) ok).run P w = .ok (if ok then .tuple #[(lookM l k).getD z, .bool (lookM l k).isSome] else (lookM l k).getD z) w := by
  obtain ⟨j, hj⟩ := run_findKey_M hk k l 0 w
  unfold Instr.lookup
  cases hl : lookM l k with
  | none =>
    rw [hl] at hj
    cases ok <;> simp [run_underlying ht, MapKept.run_getObj_map h, run_checkKey_int hk, hj, hz]
  | some v =>
    rw [hl] at hj
    cases ok <;> simp [run_underlying ht, MapKept.run_getObj_map h, run_checkKey_int hk, hj]
set_option maxRecDepth 100000 in
theorem run_lookM_nil {P : Program} {t kt et : TypeId} {q : IntKind} (ht : P.underlying t = some (.map kt et)) (hk : P.underlying kt = some (.int q)) (w : World) (k : Int) {z : Value} (hz : (zeroValue et).run P w = .ok z w) (ok : Bool) :
    (Instr.lookup t (.map none) (.int q k) ok).run P w = .ok (if ok then .tuple #[z, .bool false] else z) w := by
  obtain ⟨j, hj⟩ := run_findKey_M hk k [] 0 w
  have hj2 : (Instr.findKey kt (.int q k) []).run P w = .ok none w := hj
  unfold Instr.lookup
  cases ok <;> simp [run_underlying ht, run_checkKey_int hk, hj2, hz]
set_option maxRecDepth 100000 in
theorem wpList_putM {P : Program} {ops : Array Oper} {rest : List Oper} {o : Oper} {a : Act} {Q : Exit → Act → World → Prop} {w : World} (hg : o.guard = none) (m x v : Operand) (t : TypeId) (hop : o.op = Op.mapUpdate t m x v ∨ o.op = Op.insert t m x v)
    {kt et : TypeId} {q : IntKind} (ht : P.underlying t = some (.map kt et)) (hk : P.underlying kt = some (.int q)) (g : Nat) (l : List (Int × Value)) (hm : a.eval m = .map (some g)) (h : MpI q w g l) (k : Int) (val : Value) (hx : a.eval x = .int q k) (hv : a.eval v = val) (hn : lookM l k = none)
    (hK : MpI q (putM w g (.map (enM q 0 (l ++ [(k, val)])).toArray (l.length + 1))) g (l ++ [(k, val)]) → wpList P ops Q rest (a.put o.dst undef) (putM w g (.map (enM q 0 (l ++ [(k, val)])).toArray (l.length + 1)))) : wpList P ops Q (o :: rest) a w := by
  refine wpList_plain hg fun K' hK' => ?_
  have hrun := run_putM ht hk h k val hn
  unfold Oper.wp
  rcases hop with hop | hop
  · simp [execOp, hop, hm, hx, hv, hrun, Result.andThen]
    exact hK' _ _ (hK (h.put k val))
  · simp [execOp, hop, hm, hx, hv, hrun, Result.andThen]
    exact hK' _ _ (hK (h.put k val))
set_option maxRecDepth 100000 in
theorem wpList_lookM {P : Program} {ops : Array Oper} {rest : List Oper} {o : Oper} {a : Act} {Q : Exit → Act → World → Prop} {w : World} (hg : o.guard = none) (m x : Operand) (t : TypeId) (ok : Bool) (hop : o.op = Op.lookup t m x ok)
    {kt et : TypeId} {q : IntKind} (ht : P.underlying t = some (.map kt et)) (hk : P.underlying kt = some (.int q)) (g : Nat) (l : List (Int × Value)) (hm : a.eval m = .map (some g)) (h : MpI q w g l) (k : Int) (hx : a.eval x = .int q k) {z : Value} (hz : (zeroValue et).run P w = .ok z w)
    (hK : wpList P ops Q rest (a.put o.dst (if ok then .tuple #[(lookM l k).getD z, .bool (lookM l k).isSome] else (lookM l k).getD z)) w) : wpList P ops Q (o :: rest) a w := by
  refine wpList_plain hg fun K' hK' => ?_
  have hrun := run_lookM ht hk h k hz ok
  unfold Oper.wp
  simp [execOp, hop, hm, hx, hrun, Result.andThen]
  exact hK' _ _ hK
end Go.Proofs.Ytcdmkmmigajbnaa
