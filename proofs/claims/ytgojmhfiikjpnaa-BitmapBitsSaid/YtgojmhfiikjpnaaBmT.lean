
/- Package bitmap: Right, Place, is, set, size, take: what each call answers. -/
import Derived.Test.YtgojmhfiikjpnaaBmD
namespace Go.Proofs.Ytgojmhfiikjpnaa
open Go.RowKit

theorem RightP.i64 {l : List Int} (h : RightP l) : I64s l := fun z hz => by have := h.mem hz; omega

set_option maxRecDepth 100000 in
set_option maxHeartbeats 1000000 in
theorem bRight_any (A : Option Addr) (l : List Int) (c : Nat) (W : World) (hl : l.length ≤ 1000) (_ : I64s l) (hr : RdI W W.heap.size A l) :
    Calls Try.prog 15 #[.slice A l.length c] W fun e W' => e = .returned (.bool (decide (RightP l))) ∧ Below W.heap.size W W' := by
  obtain ⟨R, hR⟩ : ∃ R, R = decide (RightP l) := ⟨_, rfl⟩
  rw [← hR]
  have HR := Lib.hid hR
  have RA := Lib.hid hr
  obtain ⟨n, hn⟩ : ∃ n, n = l.length := ⟨_, rfl⟩
  have HN := Lib.hid hn
  rw [← hn] at hl ⊢
  clear hR hr hn
  go_enter Try.func15, Try.ntmps15
  go_wp2
  go_loopw [3, 8] (fun p i wr => ∃ (k : Nat) (z : Int), k ≤ n ∧ p = .int .i64 z ∧ i = .int .i64 k ∧ Hid ((k = 0 ∧ z = 1) ∨ (0 < k ∧ ∀ h : k - 1 < l.length, z = l[k - 1])) ∧ Hid (∀ j (h : j < l.length), j < k → 2 ≤ l[j] ∧ l[j] ≤ 128 ∧ l[j] ≠ 65 ∧ (0 < j → l[j - 1] < l[j])) ∧ Below W.heap.size W wr) (fun _ i _ => n - (intOf i).toNat)
  case atStart => exact ⟨0, 1, Nat.zero_le _, rfl, rfl, Lib.hid (.inl ⟨rfl, rfl⟩), Lib.hid (fun j h hj => absurd hj (by omega)), Below.refl _ _⟩
  case round =>
    obtain ⟨k, z, hk, rfl, rfl, HZ, HT, hbel⟩ := hrel
    have HB := Lib.hid hbel
    clear hbel
    by_cases hlt : k < n
    · have hk1 : k < l.length := by rw [← HN.out]; exact hlt
      obtain ⟨b1, o1, rfl, hb1, hc1⟩ := RA.out (by omega)
      have k1 := (HB.out.cell (p := ⟨b1, o1 + k, none⟩) hb1).trans (hc1 k hk1)
      have HTN := Lib.hid (show (z < l[k] ∧ l[k] ≤ 128 ∧ l[k] ≠ 65) → ∀ j (h : j < l.length), j < k + 1 → 2 ≤ l[j] ∧ l[j] ≤ 128 ∧ l[j] ≠ 65 ∧ (0 < j → l[j - 1] < l[j]) from fun h j hj1 hj2 => by
        by_cases e : j = k
        · subst e
          refine ⟨?_, h.2.1, h.2.2, fun h0 => ?_⟩
          · rcases HZ.out with ⟨_, rfl⟩ | ⟨h0, hz⟩
            · omega
            · have := hz (by omega)
              have := (HT.out (j - 1) (by omega) (by omega)).1
              omega
          · rcases HZ.out with ⟨h9, _⟩ | ⟨_, hz⟩
            · omega
            · rw [← hz (by omega)]; exact h.1
        · exact HT.out j hj1 (by omega))
      have HNE := Lib.hid (show ¬ (z < l[k] ∧ l[k] ≤ 128 ∧ l[k] ≠ 65) → R = false from fun hne => by
        rw [HR.out]
        refine decide_eq_false (fun h => hne ⟨?_, (h k hk1).2.1, (h k hk1).2.2.1⟩)
        rcases HZ.out with ⟨_, rfl⟩ | ⟨h0, hz⟩
        · have := (h k hk1).1; omega
        · rw [hz (by omega)]; exact (h k hk1).2.2.2 h0)
      have HZN := Lib.hid (show ∀ y, y = l[k] → (k + 1 = 0 ∧ y = 1) ∨ (0 < k + 1 ∧ ∀ h : k + 1 - 1 < l.length, y = l[k + 1 - 1]) from fun y hy => .inr ⟨by omega, fun _ => hy⟩)
      have hki : (k : Int) < (n : Int) := by omega
      have hk0 : (0 : Int) ≤ (k : Int) := Int.natCast_nonneg _
      obtain ⟨x, hx⟩ : ∃ x, x = l[k] := ⟨_, rfl⟩
      have HZQ := Lib.hid (HZN.out x hx)
      rw [← hx] at k1 HTN HNE
      clear hc1 HT HZN hx HZ
      by_cases h1 : x ≤ z
      · have HRF := Lib.hid (HNE.out (fun h => by omega))
        clear HNE HTN hk1 HZQ
        go_wp2
        go_ret
        exact ⟨by rw [HRF.out]; rfl, HB.out⟩
      by_cases h2 : 128 < x
      · have HRF := Lib.hid (HNE.out (fun h => by omega))
        clear HNE HTN hk1 HZQ
        go_wp2
        go_ret
        exact ⟨by rw [HRF.out]; rfl, HB.out⟩
      by_cases h3 : x = 65
      · have HRF := Lib.hid (HNE.out (fun h => by omega))
        have d3 : (x == 65) = true := beq_iff_eq.2 h3
        clear HNE HTN h3 hk1 HZQ
        go_wp2
        go_ret
        exact ⟨by rw [HRF.out]; rfl, HB.out⟩
      have d3 : (x == 65) = false := beq_eq_false_iff_ne.2 h3
      have HTQ := Lib.hid (HTN.out ⟨by omega, by omega, h3⟩)
      clear HNE HTN h3 hk1
      go_wp2
      go_roundw
      case rel => exact ⟨k + 1, x, by omega, rfl, by go_num, HZQ, HTQ, HB.out⟩
      case measure => simp [intOf]; omega
    · have HRT := Lib.hid (show R = true by
        rw [HR.out]
        exact decide_eq_true (fun j hj => HT.out j hj (by have := HN.out; omega)))
      have hki : ¬ (k : Int) < (n : Int) := by omega
      clear HT
      go_wp2
      go_ret
      exact ⟨by rw [HRT.out]; rfl, HB.out⟩

theorem pow8 (r : Nat) (h : r < 8) : 128 / 2 ^ r = 2 ^ (7 - r) := by
  match r, h with
  | 0, _ => rfl
  | 1, _ => rfl
  | 2, _ => rfl
  | 3, _ => rfl
  | 4, _ => rfl
  | 5, _ => rfl
  | 6, _ => rfl
  | 7, _ => rfl
  | k + 8, h => omega
theorem pow8i (r : Nat) (h : r < 8) : (128 : Int) / 2 ^ r = ((2 ^ (7 - r) : Nat) : Int) := by
  rw [← pow8 r h]
  simp

set_option maxRecDepth 100000 in
set_option maxHeartbeats 1000000 in
theorem bPlace_is (n : Int) (hn : -9223372036854775808 ≤ n ∧ n ≤ 9223372036854775807) (W : World) :
    Calls Try.prog 12 #[.int .i64 n] W fun e W' => e = .returned (.tuple #[.int .i64 (plI n), .int .u8 (plB n : Nat)]) ∧ ∃ k, W' = W.drewN k := by
  unfold plI plB
  by_cases h1 : n < 1
  · rw [if_neg (by omega), if_neg (by omega)]
    go_enter Try.func12, Try.ntmps12
    go_wp2
    go_ret2
    exact ⟨rfl, 0, rfl⟩
  by_cases h2 : 128 < n
  · rw [if_neg (by omega), if_neg (by omega)]
    go_enter Try.func12, Try.ntmps12
    go_wp2
    go_ret2
    exact ⟨rfl, 0, rfl⟩
  rw [if_pos (by omega), if_pos (by omega)]
  have HP := Lib.hid (pow8i ((n - 1) % 8).toNat (by omega))
  go_enter Try.func12, Try.ntmps12
  go_wp2
  go_quiet (fail)
  go_wp2
  go_ret2
  refine ⟨?_, _, rfl⟩
  rw [← HP.out]
  rfl
theorem bPlace_any (n : Int) (hn : -9223372036854775808 ≤ n ∧ n ≤ 9223372036854775807) (W : World) :
    Calls Try.prog 12 #[.int .i64 n] W fun e W' => e = .returned (.tuple #[.int .i64 (plI n), .int .u8 (plB n : Nat)]) ∧ Below W.heap.size W W' := by
  refine (bPlace_is n hn W).mono ?_
  rintro e w' ⟨rfl, k, rfl⟩
  exact ⟨rfl, below_drewN (Below.refl _ _) k⟩

set_option maxRecDepth 100000 in
theorem bIs_any (A : Option Addr) (b : List UInt8) (c n : Nat) (W : World) (h1 : 1 ≤ n) (h2 : n ≤ 128) (hb : (n - 1) / 8 < b.length) (hl : b.length ≤ 100000) (hr : Rd W W.heap.size A b) :
    Calls Try.prog 27 #[.slice A b.length c, .int .i64 (n : Int)] W fun e W' => e = .returned (.bool (hasF b n)) ∧ ∃ k, W' = W.drewN k := by
  have CP := Lib.hid (fun w => bPlace_is (n : Int) (by omega) w)
  rw [(plI_nat n h1 h2).1, (plI_nat n h1 h2).2] at CP
  obtain ⟨ab, ao, rfl, hab, hcell⟩ := hr.at_ hb
  obtain ⟨X, hX, hB, hX2⟩ := and_bit b[(n - 1) / 8].toNat (7 - (n - 1) % 8) b[(n - 1) / 8].toNat_lt (by omega)
  have hH : hasF b n = ((X : Int) != 0) := by
    rw [hB]
    unfold hasF
    rw [List.getD_eq_getElem?_getD, List.getElem?_eq_getElem hb, Option.getD_some]
  rw [hH]
  obtain ⟨p, hp⟩ : ∃ p : Nat, p = 2 ^ (7 - (n - 1) % 8) := ⟨_, rfl⟩
  rw [← hp] at CP hX
  obtain ⟨j, hj⟩ : ∃ j, j = (n - 1) / 8 := ⟨_, rfl⟩
  generalize b[(n - 1) / 8].toNat = x at *
  rw [← hj] at CP hcell hb
  generalize b.length = m at *
  have hji : (j : Int) < (m : Int) := by omega
  have hcw : ∀ k, (W.drewN k).cell? ⟨ab, ao + j, none⟩ = some (.int .u8 (x : Int)) := fun k => hcell
  clear hB hH hp hj hcell
  go_enter Try.func27, Try.ntmps27
  go_wp2_with fail
  refine (CP.out _).mono ?_
  rintro e w1 ⟨rfl, k, rfl⟩
  have hck := hcw k
  clear CP hcw
  go_wp2
  go_ret
  exact ⟨rfl, _, rfl⟩

/-- the bits, one more of them 1 -/
def orF (f : Nat → Value) (x y : Nat) (q : Nat) : Value := if q = (x - 1) / 8 then .int .u8 ((y ||| 2 ^ (7 - (x - 1) % 8) : Nat) : Int) else f q
set_option maxRecDepth 100000 in
set_option maxHeartbeats 1000000 in
theorem bSet_any (g N cap : Nat) (f : Nat → Value) (x y : Nat) (W : World) (h1 : 1 ≤ x) (h2 : x ≤ 128) (hN : N ≤ 1000) (hj : (x - 1) / 8 < N) (hrow : W.rowIs g 5 N f) (hf : f ((x - 1) / 8) = .int .u8 (y : Int)) (hy : y < 256) :
    Calls Try.prog 22 #[.slice (some ⟨g, 0, none⟩) N cap, .int .i64 (x : Int)] W fun e W' => e = .returned (.tuple #[]) ∧ W'.rowIs g 5 N (orF f x y) ∧ Below g W W' := by
  have CP := Lib.hid (fun w => bPlace_is (x : Int) (by omega) w)
  rw [(plI_nat x h1 h2).1, (plI_nat x h1 h2).2] at CP
  have hp8 : 2 ^ (7 - (x - 1) % 8) < 256 := by
    have := Nat.pow_le_pow_right (show 1 ≤ 2 by decide) (show 7 - (x - 1) % 8 ≤ 7 by omega)
    have e : 2 ^ 7 = 128 := rfl
    omega
  have HOR := Lib.hid (show orF f x y = fun q => if q = (x - 1) / 8 then .int .u8 ((y ||| 2 ^ (7 - (x - 1) % 8) : Nat) : Int) else f q from rfl)
  generalize orF f x y = G at *
  obtain ⟨j, hj'⟩ : ∃ j, j = (x - 1) / 8 := ⟨_, rfl⟩
  obtain ⟨p, hp⟩ : ∃ p : Nat, p = 2 ^ (7 - (x - 1) % 8) := ⟨_, rfl⟩
  rw [← hj'] at CP HOR hj hf
  rw [← hp] at CP HOR hp8
  have hor := u8_or_nat y p hy hp8
  have hji : (j : Int) < (N : Int) := by omega
  have HROW := Lib.hid hrow
  have hcw : ∀ k, (W.drewN k).cell? ⟨g, j, none⟩ = some (.int .u8 (y : Int)) := fun k => by rw [← hf]; exact hrow.cell hj
  have hfw : ∀ k, (W.drewN k).frozen? ⟨g, j, none⟩ = false := fun k => hrow.frozen j
  clear hj' hp hf hrow
  go_enter Try.func22, Try.ntmps22
  go_wp2_with fail
  refine (CP.out _).mono ?_
  rintro e w1 ⟨rfl, k, rfl⟩
  have hck := hcw k
  have hfk := hfw k
  clear CP hcw hfw
  go_wp2
  go_end0
  refine ⟨rfl, ?_, ?_⟩
  · rw [HOR.out]
    refine (World.rowIs.set (w := W.drewN k) HROW.out j _).congr (fun q _ => ?_)
    by_cases e : q = j
    · simp only [if_pos e]
    · simp only [if_neg e]
  · exact (below_drewN (Below.refl g W) k).setCell (Nat.le_refl _) _

set_option maxRecDepth 100000 in
theorem bSize_any (A : Option Addr) (l : List Int) (c : Nat) (W : World) (hl : l.length ≤ 1000) (hr : RdI W W.heap.size A l) :
    Calls Try.prog 21 #[.slice A l.length c] W fun e W' => e = .returned (.int .i64 (sizeB (l.getLast?.any fun x => decide (64 < x)) : Nat)) ∧ W' = W := by
  rcases List.eq_nil_or_concat l with rfl | ⟨l0, z, rfl⟩
  · go_enter Try.func21, Try.ntmps21
    go_wp2
    go_ret
    exact ⟨rfl, rfl⟩
  · rw [List.concat_eq_append] at *
    have hlast : (l0 ++ [z]).getLast?.any (fun x => decide (64 < x)) = decide (64 < z) := by simp
    rw [hlast]
    obtain ⟨b, o, rfl, hb, hc⟩ := hr.at_ (k := l0.length) (by simp)
    have hz : (l0 ++ [z])[l0.length]'(by simp) = z := by simp
    rw [hz] at hc
    rw [List.length_append] at hl ⊢
    simp only [List.length_cons, List.length_nil] at hl ⊢
    clear hr hz hlast
    generalize l0.length = m at *
    have e1 : (((m + 1 : Nat) : Int)) - 1 = (m : Int) := by omega
    have e2 : (0 : Int) < ((m + 1 : Nat) : Int) := by omega
    have e3 : (m : Int) < ((m + 1 : Nat) : Int) := by omega
    obtain ⟨M, hM⟩ : ∃ M, M = m + 1 := ⟨_, rfl⟩
    rw [← hM] at e1 e2 e3 ⊢
    by_cases h64 : 64 < z
    · rw [decide_eq_true h64]
      clear hM
      go_enter Try.func21, Try.ntmps21
      go_wp2
      go_ret
      exact ⟨rfl, rfl⟩
    · rw [decide_eq_false h64]
      clear hM
      go_enter Try.func21, Try.ntmps21
      go_wp2
      go_ret
      exact ⟨rfl, rfl⟩
/-- the rows that bytes begin with -/
def takeF (b : List UInt8) : Nat := if b.length < 8 then 0 else if b.length < sizeB (hasF b 1) then 0 else sizeB (hasF b 1)
def takeV (A : Option Addr) (b : List UInt8) (c : Nat) : Value := if takeF b = 0 then .tuple #[.slice none 0 0, .int .i64 3] else .tuple #[.slice A (takeF b) c, .int .i64 0]
theorem takeV_0 {A : Option Addr} {b : List UInt8} {c : Nat} (h : takeF b = 0) : takeV A b c = .tuple #[.slice none 0 0, .int .i64 3] := by unfold takeV; rw [if_pos h]
theorem takeV_n {A : Option Addr} {b : List UInt8} {c n : Nat} (h : takeF b = n) (h0 : n ≠ 0) : takeV A b c = .tuple #[.slice A n c, .int .i64 0] := by unfold takeV; rw [if_neg (by omega), h]
set_option maxRecDepth 100000 in
theorem bTake_any (A : Option Addr) (b : List UInt8) (c : Nat) (W : World) (hc : b.length ≤ c) (hcm : c ≤ 9223372036854775807) (hl : b.length ≤ 100000) (hr : Rd W W.heap.size A b) :
    Calls Try.prog 23 #[.slice A b.length c] W fun e W' => e = .returned (takeV A b c) ∧ ∃ k, W' = W.drewN k := by
  by_cases h8 : b.length < 8
  · have e0 : takeF b = 0 := by unfold takeF; rw [if_pos h8]
    rw [takeV_0 e0]
    have h8i : (b.length : Int) < 8 := by omega
    clear e0 hr hc
    generalize b.length = m at *
    go_enter Try.func23, Try.ntmps23
    go_wp2
    go_ret2
    exact ⟨rfl, 0, rfl⟩
  have CI := Lib.hid (show Calls Try.prog 27 #[.slice A b.length c, .int .i64 1] W fun e W' => e = .returned (.bool (hasF b 1)) ∧ ∃ k, W' = W.drewN k from bIs_any A b c 1 W (by omega) (by omega) (by omega) hl hr)
  obtain ⟨ab, ao, hA⟩ : ∃ ab ao, A = some ⟨ab, ao, none⟩ := by
    obtain ⟨ab, ao, hA, _, _⟩ := hr.at_ (k := 0) (by omega)
    exact ⟨ab, ao, hA⟩
  have h8i : ¬ (b.length : Int) < 8 := by omega
  have c8 : (8 : Int) ≤ (c : Int) := by omega
  have c8n : 8 ≤ c := by omega
  have hT : takeF b = if b.length < sizeB (hasF b 1) then 0 else sizeB (hasF b 1) := by unfold takeF; rw [if_neg h8]
  cases hw : hasF b 1 with
  | false =>
    have e0 : takeF b = 8 := by rw [hT, hw, if_neg (show ¬ b.length < sizeB false from by show ¬ b.length < 8; omega)]; rfl
    rw [takeV_n e0 (by decide)]
    rw [hw] at CI
    clear e0 hr hw hT hA
    generalize b.length = m at *
    go_enter Try.func23, Try.ntmps23
    go_wp2_with fail
    refine CI.out.mono ?_
    rintro e w1 ⟨rfl, k, rfl⟩
    clear CI
    go_wp2
    go_ret2
    exact ⟨rfl, _, rfl⟩
  | true =>
    rw [hw] at CI
    by_cases h16 : b.length < 16
    · have e0 : takeF b = 0 := by rw [hT, hw, if_pos (show b.length < sizeB true from h16)]
      rw [takeV_0 e0]
      have h16i : (b.length : Int) < 16 := by omega
      clear e0 hr hw hT hA
      generalize b.length = m at *
      go_enter Try.func23, Try.ntmps23
      go_wp2_with fail
      refine CI.out.mono ?_
      rintro e w1 ⟨rfl, k, rfl⟩
      clear CI
      go_wp2
      go_ret2
      exact ⟨rfl, _, rfl⟩
    · have e0 : takeF b = 16 := by rw [hT, hw, if_neg (show ¬ b.length < sizeB true from h16)]; rfl
      rw [takeV_n e0 (by decide)]
      have h16i : ¬ (b.length : Int) < 16 := by omega
      have c16 : (16 : Int) ≤ (c : Int) := by omega
      have c16n : 16 ≤ c := by omega
      clear e0 hr hw hT hA
      generalize b.length = m at *
      go_enter Try.func23, Try.ntmps23
      go_wp2_with fail
      refine CI.out.mono ?_
      rintro e w1 ⟨rfl, k, rfl⟩
      clear CI
      go_wp2
      go_ret2
      exact ⟨rfl, _, rfl⟩
end Go.Proofs.Ytgojmhfiikjpnaa
