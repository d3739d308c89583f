/- ShaKeys' walk -/
import Derived.Test.YtggbcjfcnphenaaDoorKTimes
namespace Go.Proofs.YtggbcjfcnphenaaDoor
open Go.RowKit

set_option maxRecDepth 100000 in
theorem all_2s : (List.range 8).all (fun j => chkR (h0.at j).toNat (prAt j) 2 (whole2 (prAt j))) = true := by kernel_rfl
structure Roots (x p power m : Nat) : Prop where
  up : ∀ j, j < m → rootB (x + (j + 1) * 4294967296) p power = true
  top : rootB (x + (m + 1) * 4294967296) p power = false
  yes : rootB (x + m * 4294967296) p power = true
  no : rootB (x + m * 4294967296 + 1) p power = false
theorem roots_of {x p power m : Nat} (h : chkR x p power m = true) : Roots x p power m := by
  unfold chkR at h
  simp only [Bool.and_eq_true, List.all_eq_true, List.mem_range, Bool.not_eq_true'] at h
  obtain ⟨⟨⟨h1, h2⟩, h3⟩, h4⟩ := h
  exact ⟨h1, h2, h3, h4⟩
theorem roots3 (i : Nat) (h : i < 64) : Roots (ksAt i).toNat (prAt i) 3 (whole3 (prAt i)) :=
  roots_of (List.all_eq_true.1 all_3 i (List.mem_range.2 h))
theorem roots2 (i : Nat) (h : i < 8) : Roots (h0.at i).toNat (prAt i) 2 (whole2 (prAt i)) :=
  roots_of (List.all_eq_true.1 all_2s i (List.mem_range.2 h))
theorem primes (j : Nat) (h : j < 63) : prAt j < prAt (j + 1) ∧ prAt (j + 1) ≤ 311 ∧ primeB (prAt (j + 1)) = true ∧ ∀ q, prAt j < q → q < prAt (j + 1) → primeB q = false := by
  have h1 := List.all_eq_true.1 all_p j (List.mem_range.2 h)
  unfold chkP at h1
  simp only [Bool.and_eq_true, List.all_eq_true, List.mem_range, Bool.not_eq_true', decide_eq_true_eq] at h1
  obtain ⟨⟨⟨h2, h3⟩, h4⟩, h5⟩ := h1
  refine ⟨h2, h3, h4, fun q hq hq2 => ?_⟩
  have h6 := h5 (q - prAt j - 1) (by omega)
  rwa [show prAt j + 1 + (q - prAt j - 1) = q by omega] at h6
theorem prAt_lo (j : Nat) (h : j < 64) : 2 ≤ prAt j ∧ prAt j ≤ 311 := by
  induction j with
  | zero => exact ⟨by decide, by decide⟩
  | succ j ih =>
    have h1 := primes j (by omega)
    have h2 := ih (by omega)
    omega
theorem whole3_le (p : Nat) : whole3 p ≤ 6 := by
  unfold whole3
  repeat' split
  all_goals omega
theorem whole2_le (p : Nat) : whole2 p ≤ 4 := by
  unfold whole2
  repeat' split
  all_goals omega
theorem h0_row (i : Nat) (h : i < 8) (r : Value) : (hcells h0 0 r)[i]? = some (wv (h0.at i)) := by
  match i, h with
  | 0, _ => rfl | 1, _ => rfl | 2, _ => rfl | 3, _ => rfl | 4, _ => rfl | 5, _ => rfl | 6, _ => rfl | 7, _ => rfl
  | i + 8, h => exact absurd h (by omega)

set_option maxRecDepth 100000 in
set_option maxHeartbeats 4000000 in
theorem shaKeys_walk (a : Int) (W : World) (ha : 0 ≤ a ∧ a ≤ 255) (hk : Ks W) :
    Calls Tryd.prog 7 #[.int .u8 a] W fun e W' => e = .returned (.bool true) ∧ Below W.heap.size W W' := by
  have KB := Lib.hid (fun w (h : Below W.heap.size W w) => Ks.call hk h)
  obtain ⟨k, rfl⟩ := Int.eq_ofNat_of_zero_le ha.1
  obtain ⟨i, hi⟩ : ∃ i, i = k % 64 := ⟨_, rfl⟩
  have hi64 : i < 64 := by omega
  have hk255 : (k : Int) ≤ 255 := by omega
  have r1 : (k : Int) % 64 = (i : Int) := by omega
  clear ha hk hi
  go_enter Tryd.func7, Tryd.ntmps7
  go_wp2_with fail
  refine (shown_any _ (KB.out _ (Below.refl _ _))).mono ?_
  rintro e W1 ⟨rfl, hb1⟩
  have HB1 := Lib.hid hb1
  clear hb1
  go_wp2
  rw [r1]
  clear r1
  go_loop [5, 6] (fun p n => ∃ j : Nat, j ≤ i ∧ n = .int .i64 j ∧ p = .int .i64 ((prAt j : Nat) : Int)) (fun _ n => i - (intOf n).toNat)
  case atStart => exact ⟨0, by omega, rfl, rfl⟩
  case round =>
    obtain ⟨j, hj, rfl, rfl⟩ := hrel
    by_cases hlt : j < i
    · have hlti : (j : Int) < (i : Int) := by omega
      obtain ⟨h1, h2, h3, h4⟩ := primes j (by omega)
      have h5 := (prAt_lo j (by omega)).1
      obtain ⟨pj, hpj⟩ : ∃ p, p = prAt j := ⟨_, rfl⟩
      obtain ⟨pn, hpn⟩ : ∃ p, p = prAt (j + 1) := ⟨_, rfl⟩
      rw [← hpj] at h1 h4 h5 ⊢
      rw [← hpn] at h1 h2 h3 h4
      have H3 := Lib.hid h3
      have H4 := Lib.hid h4
      have HPN := Lib.hid hpn
      clear h3 h4 hpj hpn
      go_wp2
      go_loop [5] (fun v => ∃ q : Nat, pj < q ∧ q ≤ pn ∧ v = .int .i64 q) (fun v => pn - (intOf v).toNat)
      case atStart => exact ⟨pj + 1, by omega, by omega, by go_num⟩
      case round =>
        obtain ⟨q, hq1, hq2, rfl⟩ := hrel
        by_cases hqn : q < pn
        · have CP := Lib.hid (fun W => prime_any q W (by omega) (by omega))
          rw [H4.out q hq1 hqn] at CP
          go_wp2_with fail
          refine (CP.out _).mono ?_
          rintro e w ⟨rfl, rfl⟩
          go_wp2
          go_round
          case rel => exact ⟨q + 1, by omega, by omega, by go_num⟩
          case measure => simp [intOf]; omega
        · obtain rfl : q = pn := by omega
          have CP := Lib.hid (fun W => prime_any q W (by omega) (by omega))
          rw [H3.out] at CP
          go_wp2_with fail
          refine (CP.out _).mono ?_
          rintro e w ⟨rfl, rfl⟩
          go_wp2
          go_round
          case rel => exact ⟨j + 1, by omega, by go_num, by rw [← HPN.out]⟩
          case measure => simp [intOf]; omega
    · have hji : j = i := by omega
      obtain ⟨P, hP⟩ : ∃ P, P = prAt i := ⟨_, rfl⟩
      have hP1 := prAt_lo i hi64
      have R3 := roots3 i hi64
      rw [← hP] at hP1 R3
      rw [hji, ← hP]
      have KA := Lib.hid (fun w h => key_any (i : Int) w h)
      rw [keyF_yes hi64] at KA
      obtain ⟨x, hx⟩ : ∃ x, x = ksAt i := ⟨_, rfl⟩
      rw [← hx] at R3 KA
      have hx32 := x.toNat_lt
      obtain ⟨K, hK⟩ : ∃ K, K = x.toNat := ⟨_, rfl⟩
      have KA' := Lib.hid (show ∀ w, Ks w → Calls Tryd.prog 19 #[.int .i64 (i : Int)] w fun e w' => e = .returned (.int .u32 (K : Int)) ∧ w = w' from fun w h => (KA.out w h).mono fun e w' h => by rw [hK]; exact h)
      rw [← hK] at R3
      have hK32 : K < 4294967296 := by rw [hK]; exact hx32
      have hM := whole3_le P
      generalize whole3 P = M at *
      have HR3 := Lib.hid R3
      have HP := Lib.hid hP
      have hlti : ¬ (i : Int) < (i : Int) := by omega
      clear KA hx hx32 hK R3 hP hji
      have HKi := Lib.hid hlt
      clear hlt
      have HKK := Lib.hid (show ∀ m, m ≤ 7 → K + m * 4294967296 + 4294967296 < 1099511627776 from fun m h => by omega)
      go_wp2_with fail
      refine (KA'.out _ (KB.out _ HB1.out)).mono ?_
      rintro e w ⟨rfl, rfl⟩
      have hKi : (K : Int) < 4294967296 := by omega
      go_wp2_with fail
      go_loopw [7] (fun v wr => ∃ m low : Nat, m ≤ M ∧ v = .int .i64 low ∧ Hid (low = K + m * 4294967296) ∧ Below W.heap.size W wr) (fun v _ => K + (M + 1) * 4294967296 - (intOf v).toNat)
      case atStart => exact ⟨0, K, by omega, rfl, Lib.hid (by omega), HB1.out⟩
      case round =>
        clear HB1
        obtain ⟨m, low, hm, rfl, HL, hbel⟩ := hrel
        have HB := Lib.hid hbel
        have hz := hbel.size
        clear hbel
        have hb := HKK.out m (by omega)
        have hl1 : low + 4294967296 < 1099511627776 := by have := HL.out; omega
        have hlow : (low : Int) < 1099511627776 := by omega
        clear hb
        obtain ⟨y, hy⟩ : ∃ y, y = low + 4294967296 := ⟨_, rfl⟩
        have hyl : y < 1099511627776 := by omega
        have hyx : y = K + (m + 1) * 4294967296 := by have := HL.out; omega
        by_cases hlt : m < M
        · have RC := Lib.hid (fun w => root_any y P 3 w hyl (by omega) (by omega))
          rw [show rootB y P 3 = true by rw [hyx]; exact HR3.out.up m hlt] at RC
          have HY := Lib.hid (show y = K + (m + 1) * 4294967296 from hyx)
          have e1 : (low : Int) + 4294967296 = (y : Int) := by omega
          have HYL := Lib.hid hy
          clear hy hyx
          go_wp2_with fail
          refine (RC.out _).mono ?_
          rintro e w2 ⟨rfl, hb2⟩
          have HB2 := Lib.hid (bel_call HB.out hb2 hz)
          clear hb2
          go_wp2
          go_roundw
          case rel => exact ⟨m + 1, y, by omega, rfl, HY, HB2.out⟩
          case measure => simp [intOf]; have h1 := HYL.out; have h2 := HL.out; omega
        · obtain rfl : m = M := by omega
          have RC := Lib.hid (fun w => root_any y P 3 w hyl (by omega) (by omega))
          rw [show rootB y P 3 = false by rw [hyx]; exact HR3.out.top] at RC
          have RC1 := Lib.hid (fun w => root_any low P 3 w (by omega) (by omega) (by omega))
          rw [show rootB low P 3 = true by rw [HL.out]; exact HR3.out.yes] at RC1
          obtain ⟨z, hz'⟩ : ∃ z, z = low + 1 := ⟨_, rfl⟩
          have RC2 := Lib.hid (fun w => root_any z P 3 w (by omega) (by omega) (by omega))
          rw [show rootB z P 3 = false by rw [hz', HL.out]; exact HR3.out.no] at RC2
          have e1 : (low : Int) + 4294967296 = (y : Int) := by omega
          have e2 : (low : Int) + 1 = (z : Int) := by omega
          clear hy hyx hz'
          go_wp2_with fail
          refine (RC.out _).mono ?_
          rintro e w2 ⟨rfl, hb2⟩
          have HB2 := Lib.hid (bel_call HB.out hb2 hz)
          clear hb2
          go_wp2_with fail
          refine (RC1.out _).mono ?_
          rintro e w3 ⟨rfl, hb3⟩
          have HB3 := Lib.hid (bel_call HB2.out hb3 HB2.out.size)
          clear hb3 HB2
          go_wp2_with fail
          refine (RC2.out _).mono ?_
          rintro e w4 ⟨rfl, hb4⟩
          have HB4 := Lib.hid (bel_call HB3.out hb4 HB3.out.size)
          clear hb4 HB3 e1 e2 RC RC1 RC2 HL hl1 hlow
          by_cases h7 : 7 < i
          · have h7i : (7 : Int) < (i : Int) := by omega
            go_wp2
            go_ret
            exact ⟨rfl, HB4.out⟩
          · have h7i : ¬ (7 : Int) < (i : Int) := by omega
            have R2 := roots2 i (by omega)
            rw [← HP.out] at R2
            obtain ⟨x2, hx2⟩ : ∃ x, x = h0.at i := ⟨_, rfl⟩
            have H0R := Lib.hid (fun r => h0_row i (by omega) r)
            rw [← hx2] at R2 H0R
            have hx32 := x2.toNat_lt
            obtain ⟨K2, hK2⟩ : ∃ K, K = x2.toNat := ⟨_, rfl⟩
            rw [← hK2] at R2
            have H0W := Lib.hid (show wv x2 = .int .u32 (K2 : Int) by rw [hK2])
            have hK232 : K2 < 4294967296 := by rw [hK2]; exact hx32
            have hM2 := whole2_le P
            generalize whole2 P = M2 at *
            have HR2 := Lib.hid R2
            have HKK2 := Lib.hid (show ∀ m, m ≤ 7 → K2 + m * 4294967296 + 4294967296 < 1099511627776 from fun m h => by omega)
            clear R2 hx2 hK2 hx32 HR3 HKK hKi KA' hK32 hm hlt
            dsimp only
            go_wp2_with fail
            refine (new_any _).mono ?_
            rintro e w5 ⟨rfl, hb5⟩
            have HB5 := Lib.hid (bel_call HB4.out hb5 HB4.out.size)
            have z5 := HB5.out.size
            clear hb5 HB4
            have hcell : (w5.alloc (.cells (hcells h0 0 (.slice none 0 0)) 36)).cell? ⟨w5.heap.size, i, none⟩ = some (.int .u32 (K2 : Int)) := by
              rw [cell_of_row _ _ _ _ _ _ (heap_alloc_new w5 _), ← H0W.out]
              exact H0R.out _
            have HB6 := Lib.hid (HB5.out.alloc z5 (.cells (hcells h0 0 (.slice none 0 0)) 36))
            have i0 : (0 : Int) ≤ (i : Int) := Int.natCast_nonneg _
            have i8 : (i : Int) < 8 := by omega
            have hK2i : (K2 : Int) < 4294967296 := by omega
            dsimp only
            go_upto_region 18 with (fail)
            change Code.wp _ _ _ _ (w5.alloc (.cells (hcells h0 0 (.slice none 0 0)) 36))
            generalize w5.alloc (.cells (hcells h0 0 (.slice none 0 0)) 36) = V at *
            go_wp2_with fail
            clear hcell
            go_loopw [7] (fun v wr => ∃ m low : Nat, m ≤ M2 ∧ v = .int .i64 low ∧ Hid (low = K2 + m * 4294967296) ∧ Below W.heap.size W wr) (fun v _ => K2 + (M2 + 1) * 4294967296 - (intOf v).toNat)
            case atStart => exact ⟨0, K2, by omega, rfl, Lib.hid (by omega), HB6.out⟩
            case round =>
              clear HB6
              obtain ⟨m, low2, hm, rfl, HL, hbel⟩ := hrel
              have HB := Lib.hid hbel
              have hz := hbel.size
              clear hbel
              have hb := HKK2.out m (by omega)
              have hl1 : low2 + 4294967296 < 1099511627776 := by have := HL.out; omega
              have hlow : (low2 : Int) < 1099511627776 := by omega
              clear hb
              obtain ⟨y2, hy⟩ : ∃ y, y = low2 + 4294967296 := ⟨_, rfl⟩
              have hyl : y2 < 1099511627776 := by omega
              have hyx : y2 = K2 + (m + 1) * 4294967296 := by have := HL.out; omega
              by_cases hlt : m < M2
              · have RC := Lib.hid (fun w => root_any y2 P 2 w hyl (by omega) (by omega))
                rw [show rootB y2 P 2 = true by rw [hyx]; exact HR2.out.up m hlt] at RC
                have HY := Lib.hid (show y2 = K2 + (m + 1) * 4294967296 from hyx)
                have e1 : (low2 : Int) + 4294967296 = (y2 : Int) := by omega
                have HYL := Lib.hid hy
                clear hy hyx
                go_wp2_with fail
                refine (RC.out _).mono ?_
                rintro e w2 ⟨rfl, hb2⟩
                have HB2 := Lib.hid (bel_call HB.out hb2 hz)
                clear hb2
                go_wp2
                go_roundw
                case rel => exact ⟨m + 1, y2, by omega, rfl, HY, HB2.out⟩
                case measure => simp [intOf]; have h1 := HYL.out; have h2 := HL.out; omega
              · obtain rfl : m = M2 := by omega
                have RC := Lib.hid (fun w => root_any y2 P 2 w hyl (by omega) (by omega))
                rw [show rootB y2 P 2 = false by rw [hyx]; exact HR2.out.top] at RC
                have RC1 := Lib.hid (fun w => root_any low2 P 2 w (by omega) (by omega) (by omega))
                rw [show rootB low2 P 2 = true by rw [HL.out]; exact HR2.out.yes] at RC1
                obtain ⟨z2, hz'⟩ : ∃ z, z = low2 + 1 := ⟨_, rfl⟩
                have RC2 := Lib.hid (fun w => root_any z2 P 2 w (by omega) (by omega) (by omega))
                rw [show rootB z2 P 2 = false by rw [hz', HL.out]; exact HR2.out.no] at RC2
                have e1 : (low2 : Int) + 4294967296 = (y2 : Int) := by omega
                have e2 : (low2 : Int) + 1 = (z2 : Int) := by omega
                clear hy hyx hz'
                go_wp2_with fail
                refine (RC.out _).mono ?_
                rintro e w2 ⟨rfl, hb2⟩
                have HB2 := Lib.hid (bel_call HB.out hb2 hz)
                clear hb2
                go_wp2_with fail
                refine (RC1.out _).mono ?_
                rintro e w3 ⟨rfl, hb3⟩
                have HB3 := Lib.hid (bel_call HB2.out hb3 HB2.out.size)
                clear hb3 HB2
                go_wp2_with fail
                refine (RC2.out _).mono ?_
                rintro e w4 ⟨rfl, hb4⟩
                have HB4 := Lib.hid (bel_call HB3.out hb4 HB3.out.size)
                go_wp2
                go_ret
                exact ⟨rfl, HB4.out⟩
end Go.Proofs.YtggbcjfcnphenaaDoor
