
/- The document's answers (bitmap): Place, has, Ints, Right. -/
import Derived.Test.YtgojmhfiikjpnaaBmA
import Derived.Deep.QuietTactic
import Derived.BigQuiet
import Derived.Laws.BitsAllLaws
namespace Go.Proofs.Ytgojmhfiikjpnaa
open Go.RowKit

def plI (n : Int) : Int := if 1 ≤ n ∧ n ≤ 128 then (n - 1) / 8 else 0
def plB (n : Int) : Nat := if 1 ≤ n ∧ n ≤ 128 then 2 ^ (7 - ((n - 1) % 8).toNat) else 0
theorem plB_le (n : Int) : plB n ≤ 128 := by
  unfold plB
  split
  · have := Nat.pow_le_pow_right (show 1 ≤ 2 by decide) (show 7 - ((n - 1) % 8).toNat ≤ 7 by omega)
    simpa using this
  · omega

set_option maxRecDepth 100000 in
theorem refPlace_any (n : Int) (hn : -9223372036854775808 ≤ n ∧ n ≤ 9223372036854775807) (W : World) :
    Calls Try.prog 13 #[.int .i64 n] W fun e W' => e = .returned (.tuple #[.int .i64 (plI n), .int .u8 (plB n : Nat)]) ∧ W = W' := by
  have hle := plB_le n
  unfold plI plB at *
  by_cases h1 : n < 1
  · rw [if_neg (by omega), if_neg (by omega)]
    go_enter Try.func13, Try.ntmps13
    go_wp2
    go_ret2
    exact ⟨rfl, rfl⟩
  by_cases h2 : 128 < n
  · rw [if_neg (by omega), if_neg (by omega)]
    go_enter Try.func13, Try.ntmps13
    go_wp2
    go_ret2
    exact ⟨rfl, rfl⟩
  rw [if_pos (by omega)] at hle
  rw [if_pos (by omega), if_pos (by omega)]
  obtain ⟨y, hy⟩ : ∃ y : Nat, n = (y : Int) + 1 := ⟨(n - 1).toNat, by omega⟩
  have HY := Lib.hid hy
  obtain ⟨r, hr⟩ : ∃ r : Nat, r = y % 8 := ⟨_, rfl⟩
  have hr8 : r < 8 := by omega
  have e1 : (n - 1) % 8 = (r : Int) := by omega
  have e2 : (n - 1).tmod 8 = (r : Int) := by rw [Int.tmod_eq_emod_of_nonneg (by omega)]; exact e1
  rw [e1, Int.toNat_natCast] at hle ⊢
  have HLE := Lib.hid hle
  have HR := Lib.hid (show r < 8 from hr8)
  obtain ⟨p, hp⟩ : ∃ p : Nat, p = 2 ^ (7 - r) := ⟨_, rfl⟩
  have HP := Lib.hid hp
  rw [← hp]
  clear hy hr hle hp
  go_enter Try.func13, Try.ntmps13
  go_wp2
  go_loop [5, 4] (fun i b => ∃ k x : Nat, k ≤ r ∧ i = .int .i64 k ∧ b = .int .i64 (x : Nat) ∧ Hid (x = 2 ^ (7 - k)) ∧ x ≤ 128) (fun i _ => r - (intOf i).toNat)
  case atStart => exact ⟨0, 128, Nat.zero_le _, rfl, rfl, Lib.hid rfl, Nat.le_refl _⟩
  case round =>
    obtain ⟨k, x, hk, rfl, rfl, hx, hx8⟩ := hrel
    by_cases hlt : k < r
    · have hki : (k : Int) < (r : Int) := by omega
      have HX := Lib.hid (show x / 2 = 2 ^ (7 - (k + 1)) by
        rw [hx.out, show 7 - k = (7 - (k + 1)) + 1 by have := HR.out; omega, Nat.pow_succ]
        omega)
      clear hx
      go_wp2
      go_round
      case rel => exact ⟨k + 1, x / 2, by omega, by go_num, by go_num, HX, by omega⟩
      case measure => simp [intOf]; omega
    · have hki : ¬ (k : Int) < (r : Int) := by omega
      have hkr : k = r := by omega
      have HX := Lib.hid (show p = x by rw [hx.out, hkr, HP.out])
      clear hx hkr
      go_wp2
      go_ret2
      exact ⟨by rw [HX.out]; rfl, rfl⟩

/-- is a bit 1, as the walk reckons it -/
theorem and_bit (x m : Nat) (hx : x < 256) (hm : m < 8) : ∃ X : Nat, bits .and .u8 (x : Int) ((2 ^ m : Nat) : Int) = (X : Int) ∧ ((X : Int) != 0) = x.testBit m ∧ X < 256 := by
  have h2 : 2 ^ m < 256 := by
    have := Nat.pow_le_pow_right (show 1 ≤ 2 by decide) (show m ≤ 7 by omega)
    have e : 2 ^ 7 = 128 := rfl
    omega
  refine ⟨x &&& 2 ^ m, u8_and_nat x (2 ^ m) hx h2, ?_, Nat.lt_of_le_of_lt Nat.and_le_left hx⟩
  have hp : 0 < 2 ^ m := Nat.pow_pos (by decide)
  cases h : x.testBit m with
  | false =>
    have e : x &&& 2 ^ m = 0 := by
      apply Nat.eq_of_testBit_eq
      intro i
      rw [Nat.testBit_and, Nat.testBit_two_pow, Nat.zero_testBit]
      by_cases e : m = i
      · subst e; rw [h, Bool.false_and]
      · rw [decide_eq_false e, Bool.and_false]
    rw [e]
    rfl
  | true =>
    have e : (x &&& 2 ^ m).testBit m = true := by rw [Nat.testBit_and, Nat.testBit_two_pow_self, h]; rfl
    have e2 : x &&& 2 ^ m ≠ 0 := fun e0 => by rw [e0, Nat.zero_testBit] at e; exact absurd e (by decide)
    rw [bne_iff_ne]
    omega
theorem plI_nat (n : Nat) (h1 : 1 ≤ n) (h2 : n ≤ 128) : plI (n : Int) = (((n - 1) / 8 : Nat) : Int) ∧ plB (n : Int) = 2 ^ (7 - (n - 1) % 8) := by
  unfold plI plB
  rw [if_pos (by omega), if_pos (by omega)]
  constructor
  · omega
  · rw [show (((n : Int) - 1) % 8).toNat = (n - 1) % 8 by omega]

set_option maxRecDepth 100000 in
theorem refHas_any (A : Option Addr) (b : List UInt8) (c n : Nat) (W : World) (h1 : 1 ≤ n) (h2 : n ≤ 128) (hb : (n - 1) / 8 < b.length) (hl : b.length ≤ 100000) (hr : Rd W W.heap.size A b) :
    Calls Try.prog 25 #[.slice A b.length c, .int .i64 (n : Int)] W fun e W' => e = .returned (.bool (hasF b n)) ∧ W = W' := by
  have CP := Lib.hid (fun w => refPlace_any (n : Int) (by omega) w)
  rw [(plI_nat n h1 h2).1, (plI_nat n h1 h2).2] at CP
  obtain ⟨ab, ao, rfl, hab, hcell⟩ := hr.at_ hb
  obtain ⟨X, hX, hB, hX2⟩ := and_bit b[(n - 1) / 8].toNat (7 - (n - 1) % 8) b[(n - 1) / 8].toNat_lt (by omega)
  have hH : hasF b n = ((X : Int) != 0) := by
    rw [hB]
    unfold hasF
    rw [List.getD_eq_getElem?_getD, List.getElem?_eq_getElem hb, Option.getD_some]
  rw [hH]
  obtain ⟨p, hp⟩ : ∃ p : Nat, p = 2 ^ (7 - (n - 1) % 8) := ⟨_, rfl⟩
  rw [← hp] at CP hX
  obtain ⟨j, hj⟩ : ∃ j, j = (n - 1) / 8 := ⟨_, rfl⟩
  generalize b[(n - 1) / 8].toNat = x at *
  rw [← hj] at CP hcell hb
  generalize b.length = m at *
  have hji : (j : Int) < (m : Int) := by omega
  clear hB hH hp hj
  go_enter Try.func25, Try.ntmps25
  go_wp2_with fail
  refine (CP.out _).mono ?_
  rintro e w1 ⟨rfl, rfl⟩
  clear CP
  go_wp2
  go_ret
  exact ⟨rfl, rfl⟩

set_option maxRecDepth 100000 in
theorem refInts_any (A B : Option Addr) (l m : List Int) (c d : Nat) (W : World) (hl : l.length ≤ 100000) (hm : m.length ≤ 100000) (hr : RdI W W.heap.size A l) (hs : RdI W W.heap.size B m) :
    Calls Try.prog 19 #[.slice A l.length c, .slice B m.length d] W fun e W' => e = .returned (.bool (decide (l = m))) ∧ Below W.heap.size W W' := by
  by_cases hlm : l.length = m.length
  · rw [hlm]
    obtain ⟨R, hR⟩ : ∃ R, R = decide (l = m) := ⟨_, rfl⟩
    rw [← hR]
    have HR := Lib.hid hR
    have RA := Lib.hid hr
    have RB := Lib.hid hs
    obtain ⟨n, hn⟩ : ∃ n, n = m.length := ⟨_, rfl⟩
    have HN := Lib.hid hn
    have HLM := Lib.hid hlm
    rw [← hn] at hm ⊢
    clear hR hr hs hn hlm hl
    go_enter Try.func19, Try.ntmps19
    go_wp2
    go_loopw [5] (fun i wr => ∃ k : Nat, k ≤ n ∧ i = .int .i64 k ∧ Hid (l.take k = m.take k) ∧ Below W.heap.size W wr) (fun i _ => n - (intOf i).toNat)
    case atStart => exact ⟨0, Nat.zero_le _, rfl, Lib.hid (by simp), Below.refl _ _⟩
    case round =>
      obtain ⟨k, hk, rfl, HT, hbel⟩ := hrel
      have HB := Lib.hid hbel
      clear hbel
      by_cases hlt : k < n
      · have hk1 : k < l.length := by rw [HLM.out, ← HN.out]; exact hlt
        have hk2 : k < m.length := by rw [← HN.out]; exact hlt
        obtain ⟨b1, o1, rfl, hb1, hc1⟩ := RA.out.at_ hk1
        obtain ⟨b2, o2, rfl, hb2, hc2⟩ := RB.out.at_ hk2
        have k1 := (HB.out.cell (p := ⟨b1, o1 + k, none⟩) hb1).trans hc1
        have k2 := (HB.out.cell (p := ⟨b2, o2 + k, none⟩) hb2).trans hc2
        have HTN := Lib.hid (show l[k] = m[k] → l.take (k + 1) = m.take (k + 1) from fun h => by
          rw [List.take_succ_eq_append_getElem hk1, List.take_succ_eq_append_getElem hk2, HT.out, h])
        have HNE := Lib.hid (show ¬ l[k] = m[k] → R = false from fun hne => by
          rw [HR.out]
          refine decide_eq_false (fun h => hne ?_)
          subst h
          rfl)
        generalize l[k] = p at *
        generalize m[k] = q at *
        have hki : (k : Int) < (n : Int) := by omega
        have hk0 : (0 : Int) ≤ (k : Int) := Int.natCast_nonneg _
        clear hc1 hc2 hk1 hk2
        by_cases hpq : p = q
        · have HTQ := Lib.hid (HTN.out hpq)
          have hpq2 : (p != q) = false := by simp [hpq]
          clear HTN HNE hpq
          go_wp2
          go_quiet (fail)
          go_wp2
          go_roundw
          case rel => exact ⟨k + 1, by omega, by go_num, HTQ, below_drewN HB.out _⟩
          case measure => simp [intOf]; omega
        · have HRF := Lib.hid (HNE.out hpq)
          have hpq2 : (p != q) = true := by simp [hpq]
          clear hpq HTN HNE
          go_wp2
          go_quiet (fail)
          go_wp2
          go_ret
          exact ⟨by rw [HRF.out]; rfl, below_drewN HB.out _⟩
      · have HRT := Lib.hid (show R = true by
          rw [HR.out]
          have h := HT.out
          have e : k = n := by omega
          have e1 : l.take k = l := List.take_of_length_le (by have := HLM.out; have := HN.out; omega)
          have e2 : m.take k = m := List.take_of_length_le (by have := HN.out; omega)
          rw [e1, e2] at h
          exact decide_eq_true h)
        have hki : ¬ (k : Int) < (n : Int) := by omega
        clear HT
        go_wp2
        go_ret
        exact ⟨by rw [HRT.out]; rfl, HB.out⟩
  · rw [decide_eq_false (fun h => hlm (by rw [h]))]
    have hni : ¬ (l.length : Int) = (m.length : Int) := by omega
    have hnb : ((l.length : Int) != (m.length : Int)) = true := by rw [bne_iff_ne]; exact hni
    generalize l.length = n at *
    generalize m.length = q at *
    clear hlm hr hs
    go_enter Try.func19, Try.ntmps19
    go_wp2
    go_ret
    exact ⟨rfl, Below.refl _ _⟩

theorem right_nil : RightP [] := fun j h => absurd h (by simp)
set_option maxRecDepth 100000 in
set_option maxHeartbeats 1000000 in
theorem refRight_any (A : Option Addr) (l : List Int) (c : Nat) (W : World) (hl : l.length ≤ 100000) (hr : RdI W W.heap.size A l) :
    Calls Try.prog 16 #[.slice A l.length c] W fun e W' => e = .returned (.bool (decide (RightP l))) ∧ Below W.heap.size W W' := by
  obtain ⟨R, hR⟩ : ∃ R, R = decide (RightP l) := ⟨_, rfl⟩
  rw [← hR]
  have HR := Lib.hid hR
  have RA := Lib.hid hr
  obtain ⟨n, hn⟩ : ∃ n, n = l.length := ⟨_, rfl⟩
  have HN := Lib.hid hn
  rw [← hn] at hl ⊢
  clear hR hr hn
  go_enter Try.func16, Try.ntmps16
  go_wp2
  go_loopw [3] (fun i wr => ∃ k : Nat, k ≤ n ∧ i = .int .i64 k ∧ Hid (∀ j (h : j < l.length), j < k → 2 ≤ l[j] ∧ l[j] ≤ 128 ∧ l[j] ≠ 65 ∧ (0 < j → l[j - 1] < l[j])) ∧ Below W.heap.size W wr) (fun i _ => n - (intOf i).toNat)
  case atStart => exact ⟨0, Nat.zero_le _, rfl, Lib.hid (fun j h hj => absurd hj (by omega)), Below.refl _ _⟩
  case round =>
    obtain ⟨k, hk, rfl, HT, hbel⟩ := hrel
    have HB := Lib.hid hbel
    clear hbel
    by_cases hlt : k < n
    · have hk1 : k < l.length := by rw [← HN.out]; exact hlt
      obtain ⟨b1, o1, rfl, hb1, hc1⟩ := RA.out (by omega)
      have k1 := (HB.out.cell (p := ⟨b1, o1 + k, none⟩) hb1).trans (hc1 k hk1)
      have HTN := Lib.hid (show (2 ≤ l[k] ∧ l[k] ≤ 128 ∧ l[k] ≠ 65 ∧ (0 < k → l[k - 1] < l[k])) → ∀ j (h : j < l.length), j < k + 1 → 2 ≤ l[j] ∧ l[j] ≤ 128 ∧ l[j] ≠ 65 ∧ (0 < j → l[j - 1] < l[j]) from fun h j hj1 hj2 => by
        by_cases e : j = k
        · subst e; exact h
        · exact HT.out j hj1 (by omega))
      have HNE := Lib.hid (show ¬ (2 ≤ l[k] ∧ l[k] ≤ 128 ∧ l[k] ≠ 65 ∧ (0 < k → l[k - 1] < l[k])) → R = false from fun hne => by
        rw [HR.out]
        exact decide_eq_false (fun h => hne (h k hk1)))
      have hki : (k : Int) < (n : Int) := by omega
      have hk0 : (0 : Int) ≤ (k : Int) := Int.natCast_nonneg _
      have hcp := fun (h0 : 0 < k) => (HB.out.cell (p := ⟨b1, o1 + (k - 1), none⟩) hb1).trans (hc1 (k - 1) (by omega))
      generalize l[k] = x at *
      clear hc1 HT
      by_cases h1 : x < 2
      · have HRF := Lib.hid (HNE.out (fun h => by omega))
        have d1 : decide (x < 2) = true := decide_eq_true h1
        clear HNE HTN hcp hk1
        go_wp2
        go_quiet (fail)
        go_wp2
        go_ret
        exact ⟨by rw [HRF.out]; rfl, below_drewN HB.out _⟩
      have d1 : decide (x < 2) = false := decide_eq_false h1
      by_cases h2 : 128 < x
      · have HRF := Lib.hid (HNE.out (fun h => by omega))
        have d2 : decide (128 < x) = true := decide_eq_true h2
        clear HNE HTN hcp hk1
        go_wp2
        go_quiet (fail)
        go_wp2
        go_ret
        exact ⟨by rw [HRF.out]; rfl, below_drewN HB.out _⟩
      have d2 : decide (128 < x) = false := decide_eq_false h2
      by_cases h3 : x = 65
      · have HRF := Lib.hid (HNE.out (fun h => by omega))
        have d3 : (x == 65) = true := beq_iff_eq.2 h3
        clear HNE HTN hcp h3 hk1
        go_wp2
        go_quiet (fail)
        go_wp2
        go_ret
        exact ⟨by rw [HRF.out]; rfl, below_drewN HB.out _⟩
      have d3 : (x == 65) = false := beq_eq_false_iff_ne.2 h3
      by_cases h4 : k = 0
      · have HTQ := Lib.hid (HTN.out ⟨by omega, by omega, h3, fun h => by omega⟩)
        have d4 : ¬ (0 : Int) < (k : Int) := by omega
        have d5 : decide ((0 : Int) < (k : Int)) = false := decide_eq_false d4
        have d7 : decide (0 < k) = false := decide_eq_false (by omega)
        clear HNE HTN hcp h3 h4 hk1
        go_wp2
        go_quiet (fail)
        go_wp2
        go_roundw
        case rel => exact ⟨k + 1, by omega, by go_num, HTQ, below_drewN HB.out _⟩
        case measure => simp [intOf]; omega
      have k2 := hcp (by omega)
      have d4 : (0 : Int) < (k : Int) := by omega
      have d5 : decide ((0 : Int) < (k : Int)) = true := decide_eq_true d4
      have d7 : decide (0 < k) = true := decide_eq_true (by omega)
      have HK := Lib.hid (show k - 1 < l.length by omega)
      have hkl : k - 1 < l.length := HK.out
      generalize l[k - 1] = y at *
      have i1 : (0 : Int) ≤ (k : Int) - 1 := by omega
      by_cases h5 : x ≤ y
      · have HRF := Lib.hid (HNE.out (fun h => by have := h.2.2.2 (by omega); omega))
        have d6 : decide (x ≤ y) = true := decide_eq_true h5
        clear HNE HTN hcp h3 h4 HK hkl hk1
        go_wp2
        go_quiet (fail)
        go_wp2
        go_ret
        exact ⟨by rw [HRF.out]; rfl, below_drewN HB.out _⟩
      · have HTQ := Lib.hid (HTN.out ⟨by omega, by omega, h3, fun _ => by omega⟩)
        have d6 : decide (x ≤ y) = false := decide_eq_false h5
        clear HNE HTN hcp h3 h4 HK hkl hk1
        go_wp2
        go_quiet (fail)
        go_wp2
        go_roundw
        case rel => exact ⟨k + 1, by omega, by go_num, HTQ, below_drewN HB.out _⟩
        case measure => simp [intOf]; omega
    · have HRT := Lib.hid (show R = true by
        rw [HR.out]
        exact decide_eq_true (fun j hj => HT.out j hj (by have := HN.out; omega)))
      have hki : ¬ (k : Int) < (n : Int) := by omega
      clear HT
      go_wp2
      go_ret
      exact ⟨by rw [HRT.out]; rfl, HB.out⟩
end Go.Proofs.Ytgojmhfiikjpnaa
