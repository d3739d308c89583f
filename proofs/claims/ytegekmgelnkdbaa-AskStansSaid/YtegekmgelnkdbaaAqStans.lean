
/- AskStans' walk. -/
import Derived.Test.YtegekmgelnkdbaaAqS
namespace Go.Proofs.Ytegekmgelnkdbaa
open Go.RowKit

set_option maxRecDepth 100000 in
set_option maxHeartbeats 4000000 in
theorem askStans_walk (n k : Int) (W : World) (hn : B64a n) (hk : 0 ≤ k ∧ k ≤ 255) (hT : Tas W) :
    Calls Try.prog 7 #[.int .i64 n, .int .u8 k] W fun e W' => e = .returned (.bool true) ∧ Below W.heap.size W W' := by
  have HT := Lib.hid hT
  clear hT
  obtain ⟨tk, rfl⟩ := Int.eq_ofNat_of_zero_le hk.1
  have hk2 := hk.2
  have hk0 : (0 : Int) ≤ (tk : Int) := Int.natCast_nonneg _
  have CS := Lib.hid (fun (t : Int) (h : 1 ≤ t ∧ t ≤ 999999) w hT => aStan_any t w hT ⟨by omega, by omega⟩)
  have C0 := Lib.hid (fun w hT => aStan_any n w hT hn)
  have hin := stan_in n
  have hst : stanA n ≠ n ∧ (0 ≤ n ∧ n < 999999 → stanA n = n + 1) ∧ (¬ (0 ≤ n ∧ n < 999999) → stanA n = 1) := by unfold stanA; split <;> omega
  obtain ⟨s, hs⟩ : ∃ s, s = stanA n := ⟨_, rfl⟩
  rw [← hs] at C0 hin hst
  obtain ⟨hst1, hst2, hst3⟩ := hst
  have s1 : ¬ s < 1 := by omega
  have s2 : ¬ 999999 < s := by omega
  have e1 : (s == n) = false := beq_eq_false_iff_ne.2 hst1
  have hn1 := hn.1
  have hn2 := hn.2
  clear hs hk hn hst1
  by_cases h0 : 0 ≤ n
  · by_cases h9 : n < 999999
    · have hs1 : s = n + 1 := hst2 ⟨h0, h9⟩
      have e2 : (s != n + 1) = false := by rw [hs1]; simp
      clear hs1
      have h0n : ¬ n < 0 := by omega
      have h9n : ¬ 999999 ≤ n := by omega
      clear hst2 hst3
      have HB := Lib.hid (Below.refl W.heap.size W)
      go_enter Try.func7, Try.ntmps7
      go_wp2_with fail
      refine (shown15_any _ (HT.out.below HB.out)).mono ?_
      rintro e w1 ⟨rfl, hb⟩
      have nHB := Lib.hid (belG HB.out hb HB.out.size)
      clear hb
      clear HB 
      have HB := nHB
      clear nHB 
      go_wp2_with fail
      refine (C0.out _ (HT.out.below HB.out)).mono ?_
      rintro e w2 ⟨rfl, hb⟩
      have nHB := Lib.hid (belG HB.out hb HB.out.size)
      clear hb
      clear HB 
      have HB := nHB
      clear nHB 
      clear C0
      go_wp2_with fail
      go_loopw [7, 8] (fun v7 v8 wr => ∃ (i : Nat) (t : Int), i ≤ tk ∧ v7 = .int .i64 t ∧ v8 = .int .i64 i ∧ Hid (t = (s - 1 + (i : Int)) % 999999 + 1) ∧ Hid (Below W.heap.size W wr)) (fun _ v8 _ => tk - (intOf v8).toNat)
      case atStart => exact ⟨0, s, by omega, rfl, rfl, Lib.hid (by omega), HB⟩
      case round =>
      clear HB
      obtain ⟨i, t, hi, rfl, rfl, HI, HB⟩ := hrel
      by_cases hlt : i < tk
      · have hiI : (i : Int) < (tk : Int) := by omega
        have hi0 : (0 : Int) ≤ (i : Int) := by omega
        have ht1 : 1 ≤ t ∧ t ≤ 999999 := by have := HI.out; omega
        have C1 := Lib.hid (CS.out t ht1)
        have HI2 := Lib.hid (stan_step (s := s) (k := (i : Int)) ⟨by omega, by omega⟩ ⟨by omega, by omega⟩ HI.out)
        clear ht1
        go_wp2_with fail
        refine (C1.out _ (HT.out.below HB.out)).mono ?_
        rintro e w3 ⟨rfl, hb⟩
        have nHB := Lib.hid (belG HB.out hb HB.out.size)
        clear hb
        clear HB 
        have HB := nHB
        clear nHB 
        go_wp2_with fail
        go_roundw
        case rel => exact ⟨i + 1, stanA t, by omega, rfl, by go_num, Lib.hid (by rw [HI2.out]; push_cast; rfl), HB⟩
        case measure => simp [intOf]; omega
      · obtain rfl : i = tk := by omega
        have hiI : ¬ (i : Int) < (i : Int) := by omega
        obtain ⟨m, hm⟩ : ∃ m, m = s - 1 + (i : Int) := ⟨_, rfl⟩
        have HI3 := Lib.hid (show t = m % 999999 + 1 from by rw [hm]; exact HI.out)
        have m0 : 0 ≤ m := by omega
        have m1 : m ≤ 2000000 := by omega
        have hm2 : s - 1 + (i : Int) = m := hm.symm
        obtain ⟨r, hr⟩ : ∃ r, r = m % 999999 := ⟨_, rfl⟩
        have r0 : 0 ≤ r := by omega
        have r1 : r < 999999 := by omega
        have i4 : m.tmod 999999 = r := by rw [Int.tmod_eq_emod_of_nonneg m0, hr]
        have i5 : m % 999999 = r := hr.symm
        have htr : t = r + 1 := by rw [HI3.out, ← hr]
        have htb : (t == r + 1) = true := by rw [htr]; simp
        clear HI HI3 hm hr htr hlt hi
        go_wp2_with fail
        go_ret
        exact ⟨by first | rfl | (simp; done), HB.out⟩
    · have hs1 : s = 1 := hst3 (fun h => h9 h.2)
      have e2 : (s != 1) = false := by rw [hs1]; rfl
      clear hs1
      have h0n : ¬ n < 0 := by omega
      have h9n : 999999 ≤ n := by omega
      have h9d : decide (n < 999999) = false := decide_eq_false h9
      clear hst2 hst3
      have HB := Lib.hid (Below.refl W.heap.size W)
      go_enter Try.func7, Try.ntmps7
      go_wp2_with fail
      refine (shown15_any _ (HT.out.below HB.out)).mono ?_
      rintro e w1 ⟨rfl, hb⟩
      have nHB := Lib.hid (belG HB.out hb HB.out.size)
      clear hb
      clear HB 
      have HB := nHB
      clear nHB 
      go_wp2_with fail
      refine (C0.out _ (HT.out.below HB.out)).mono ?_
      rintro e w2 ⟨rfl, hb⟩
      have nHB := Lib.hid (belG HB.out hb HB.out.size)
      clear hb
      clear HB 
      have HB := nHB
      clear nHB 
      clear C0
      go_wp2_with fail
      go_loopw [7, 8] (fun v7 v8 wr => ∃ (i : Nat) (t : Int), i ≤ tk ∧ v7 = .int .i64 t ∧ v8 = .int .i64 i ∧ Hid (t = (s - 1 + (i : Int)) % 999999 + 1) ∧ Hid (Below W.heap.size W wr)) (fun _ v8 _ => tk - (intOf v8).toNat)
      case atStart => exact ⟨0, s, by omega, rfl, rfl, Lib.hid (by omega), HB⟩
      case round =>
      clear HB
      obtain ⟨i, t, hi, rfl, rfl, HI, HB⟩ := hrel
      by_cases hlt : i < tk
      · have hiI : (i : Int) < (tk : Int) := by omega
        have hi0 : (0 : Int) ≤ (i : Int) := by omega
        have ht1 : 1 ≤ t ∧ t ≤ 999999 := by have := HI.out; omega
        have C1 := Lib.hid (CS.out t ht1)
        have HI2 := Lib.hid (stan_step (s := s) (k := (i : Int)) ⟨by omega, by omega⟩ ⟨by omega, by omega⟩ HI.out)
        clear ht1
        go_wp2_with fail
        refine (C1.out _ (HT.out.below HB.out)).mono ?_
        rintro e w3 ⟨rfl, hb⟩
        have nHB := Lib.hid (belG HB.out hb HB.out.size)
        clear hb
        clear HB 
        have HB := nHB
        clear nHB 
        go_wp2_with fail
        go_roundw
        case rel => exact ⟨i + 1, stanA t, by omega, rfl, by go_num, Lib.hid (by rw [HI2.out]; push_cast; rfl), HB⟩
        case measure => simp [intOf]; omega
      · obtain rfl : i = tk := by omega
        have hiI : ¬ (i : Int) < (i : Int) := by omega
        obtain ⟨m, hm⟩ : ∃ m, m = s - 1 + (i : Int) := ⟨_, rfl⟩
        have HI3 := Lib.hid (show t = m % 999999 + 1 from by rw [hm]; exact HI.out)
        have m0 : 0 ≤ m := by omega
        have m1 : m ≤ 2000000 := by omega
        have hm2 : s - 1 + (i : Int) = m := hm.symm
        obtain ⟨r, hr⟩ : ∃ r, r = m % 999999 := ⟨_, rfl⟩
        have r0 : 0 ≤ r := by omega
        have r1 : r < 999999 := by omega
        have i4 : m.tmod 999999 = r := by rw [Int.tmod_eq_emod_of_nonneg m0, hr]
        have i5 : m % 999999 = r := hr.symm
        have htr : t = r + 1 := by rw [HI3.out, ← hr]
        have htb : (t == r + 1) = true := by rw [htr]; simp
        clear HI HI3 hm hr htr hlt hi
        go_wp2_with fail
        go_ret
        exact ⟨by first | rfl | (simp; done), HB.out⟩
  · have hs1 : s = 1 := hst3 (fun h => h0 h.1)
    have e2 : (s != 1) = false := by rw [hs1]; rfl
    clear hs1
    have h0n : n < 0 := by omega
    clear hst2 hst3
    have HB := Lib.hid (Below.refl W.heap.size W)
    go_enter Try.func7, Try.ntmps7
    go_wp2_with fail
    refine (shown15_any _ (HT.out.below HB.out)).mono ?_
    rintro e w1 ⟨rfl, hb⟩
    have nHB := Lib.hid (belG HB.out hb HB.out.size)
    clear hb
    clear HB 
    have HB := nHB
    clear nHB 
    go_wp2_with fail
    refine (C0.out _ (HT.out.below HB.out)).mono ?_
    rintro e w2 ⟨rfl, hb⟩
    have nHB := Lib.hid (belG HB.out hb HB.out.size)
    clear hb
    clear HB 
    have HB := nHB
    clear nHB 
    clear C0
    go_wp2_with fail
    go_loopw [7, 8] (fun v7 v8 wr => ∃ (i : Nat) (t : Int), i ≤ tk ∧ v7 = .int .i64 t ∧ v8 = .int .i64 i ∧ Hid (t = (s - 1 + (i : Int)) % 999999 + 1) ∧ Hid (Below W.heap.size W wr)) (fun _ v8 _ => tk - (intOf v8).toNat)
    case atStart => exact ⟨0, s, by omega, rfl, rfl, Lib.hid (by omega), HB⟩
    case round =>
    clear HB
    obtain ⟨i, t, hi, rfl, rfl, HI, HB⟩ := hrel
    by_cases hlt : i < tk
    · have hiI : (i : Int) < (tk : Int) := by omega
      have hi0 : (0 : Int) ≤ (i : Int) := by omega
      have ht1 : 1 ≤ t ∧ t ≤ 999999 := by have := HI.out; omega
      have C1 := Lib.hid (CS.out t ht1)
      have HI2 := Lib.hid (stan_step (s := s) (k := (i : Int)) ⟨by omega, by omega⟩ ⟨by omega, by omega⟩ HI.out)
      clear ht1
      go_wp2_with fail
      refine (C1.out _ (HT.out.below HB.out)).mono ?_
      rintro e w3 ⟨rfl, hb⟩
      have nHB := Lib.hid (belG HB.out hb HB.out.size)
      clear hb
      clear HB 
      have HB := nHB
      clear nHB 
      go_wp2_with fail
      go_roundw
      case rel => exact ⟨i + 1, stanA t, by omega, rfl, by go_num, Lib.hid (by rw [HI2.out]; push_cast; rfl), HB⟩
      case measure => simp [intOf]; omega
    · obtain rfl : i = tk := by omega
      have hiI : ¬ (i : Int) < (i : Int) := by omega
      obtain ⟨m, hm⟩ : ∃ m, m = s - 1 + (i : Int) := ⟨_, rfl⟩
      have HI3 := Lib.hid (show t = m % 999999 + 1 from by rw [hm]; exact HI.out)
      have m0 : 0 ≤ m := by omega
      have m1 : m ≤ 2000000 := by omega
      have hm2 : s - 1 + (i : Int) = m := hm.symm
      obtain ⟨r, hr⟩ : ∃ r, r = m % 999999 := ⟨_, rfl⟩
      have r0 : 0 ≤ r := by omega
      have r1 : r < 999999 := by omega
      have i4 : m.tmod 999999 = r := by rw [Int.tmod_eq_emod_of_nonneg m0, hr]
      have i5 : m % 999999 = r := hr.symm
      have htr : t = r + 1 := by rw [HI3.out, ← hr]
      have htb : (t == r + 1) = true := by rw [htr]; simp
      clear HI HI3 hm hr htr hlt hi
      go_wp2_with fail
      go_ret
      exact ⟨by first | rfl | (simp; done), HB.out⟩
end Go.Proofs.Ytegekmgelnkdbaa
