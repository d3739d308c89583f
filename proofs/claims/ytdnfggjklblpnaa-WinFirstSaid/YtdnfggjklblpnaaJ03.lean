
/- The document's answers (win): power, Has. -/
import Derived.Test.YtdnfggjklblpnaaJ02
namespace Go.Proofs.Ytdnfggjklblpnaa
open Go.RowKit

set_option maxRecDepth 100000 in
theorem pow2_lt {k : Nat} (h : k ≤ 63) : 2 ^ k < 18446744073709551616 := Nat.lt_of_le_of_lt (Nat.pow_le_pow_right (by decide) h) (by decide)
set_option maxRecDepth 100000 in
theorem power10_any (n : Nat) (hn : n ≤ 63) (W : World) : Calls Try.prog 23 #[.int .i64 (n : Int)] W fun e W' => e = .returned (.int .u64 ((2 ^ n : Nat) : Int)) ∧ W = W' := by
  obtain ⟨F, hF⟩ : ∃ F : Nat → Nat, F = fun k => 2 ^ k := ⟨_, rfl⟩
  have HB := Lib.hid (show ∀ k, k ≤ 63 → F k < 18446744073709551616 from fun k hk => by rw [hF]; exact pow2_lt hk)
  have HS := Lib.hid (show ∀ k, F (k + 1) = 2 * F k from fun k => by rw [hF]; show 2 ^ (k + 1) = 2 * 2 ^ k; rw [Nat.pow_succ]; omega)
  have H0 := Lib.hid (show F 0 = 1 by rw [hF])
  rw [show (2 ^ n : Nat) = F n by rw [hF]]
  clear hF
  go_enter Try.func23, Try.ntmps23
  go_wp2
  go_loop [3, 4] (fun q i => ∃ k : Nat, k ≤ n ∧ i = .int .i64 (k : Int) ∧ q = .int .u64 ((F k : Nat) : Int)) (fun _ i => n - (intOf i).toNat)
  case atStart => exact ⟨0, Nat.zero_le _, rfl, by rw [H0.out]; rfl⟩
  case round =>
    obtain ⟨k, hk, rfl, rfl⟩ := hrel
    by_cases hlt : k < n
    · have h1 := HS.out k
      have h2 := HB.out (k + 1) (by omega)
      obtain ⟨y, hy⟩ : ∃ y, y = F (k + 1) := ⟨_, rfl⟩
      rw [← hy] at h1 h2
      have HY := Lib.hid hy
      have hki : (k : Int) < (n : Int) := by omega
      have e1 : (2 : Int) * ((F k : Nat) : Int) = (y : Int) := by omega
      clear h1 hy
      generalize F k = x at *
      go_wp2
      go_round
      case rel => exact ⟨k + 1, by omega, by go_num, by rw [← HY.out]⟩
      case measure => simp [intOf]; omega
    · obtain rfl : k = n := by omega
      go_wp2
      go_ret
      exact ⟨rfl, rfl⟩
set_option maxRecDepth 100000 in
theorem has_div (x p : Nat) : x.testBit p = decide (x / 2 ^ p % 2 = 1) := Nat.testBit_eq_decide_div_mod_eq
set_option maxRecDepth 100000 in
set_option maxHeartbeats 1000000 in
theorem has10_any (a : Wn) (h64 : W64 a) (p : Nat) (hp : p < 1024) (W : World) : Calls Try.prog 17 #[.agg (winC a), .int .i64 (p : Int)] W fun e W' => e = .returned (.bool (hasW a p)) ∧ Below W.heap.size W W' := by
  obtain ⟨V, C, hC, hV, hb, hg⟩ := boxW1 W a
  obtain ⟨j, hj⟩ : ∃ j, j = p / 64 := ⟨_, rfl⟩
  obtain ⟨r, hr⟩ : ∃ r, r = p % 64 := ⟨_, rfl⟩
  have hj16 : j < 16 := by omega
  have hr64 : r < 64 := by omega
  have x0 := hg.cell (winC_b a hj16)
  obtain ⟨y, hy⟩ : ∃ y, y = 2 ^ r := ⟨_, rfl⟩
  have hy0 : 0 < y := by rw [hy]; exact Nat.pow_pos (by decide)
  have hyb : y < 18446744073709551616 := by rw [hy]; exact pow2_lt (by omega)
  have CP := Lib.hid (fun w => power10_any r (by omega) w)
  rw [← hy] at CP
  have hxb := h64 j hj16
  have HR := Lib.hid (show hasW a p = decide (a.b j / y % 2 = 1) by unfold hasW; rw [← hj, ← hr, has_div, hy])
  generalize a.b j = x at *
  obtain ⟨z, hz⟩ : ∃ z, z = x / y := ⟨_, rfl⟩
  have hzb : z < 18446744073709551616 := by rw [hz]; exact Nat.lt_of_le_of_lt (Nat.div_le_self _ _) hxb
  rw [← hz] at HR
  have e1 : (x : Int) / (y : Int) = (z : Int) := by rw [hz]; exact (Int.natCast_ediv x y).symm
  have e2 : (x : Int).tdiv (y : Int) = (z : Int) := by rw [Int.tdiv_eq_ediv_of_nonneg (by omega)]; exact e1
  have q1 : (p : Int) / 64 = (j : Int) := by omega
  have q2 : (p : Int).tdiv 64 = (j : Int) := by rw [Int.tdiv_eq_ediv_of_nonneg (by omega)]; exact q1
  have q3 : (p : Int) % 64 = (r : Int) := by omega
  have q4 : (p : Int).tmod 64 = (r : Int) := by rw [Int.tmod_eq_emod_of_nonneg (by omega)]; exact q3
  have HB := Lib.hid hb
  have HV := Lib.hid hV
  have HD := Lib.hid (fun k => below_drewN hb k)
  rw [← hC]
  rw [hV] at x0
  clear hg hb hC hV hz hy hj hr h64
  go_enter Try.func17, Try.ntmps17
  go_wp2
  go_quiet ((go_at_call 23; with_reducible exact Calls.quiet_of_same ((CP.out _).mono fun _ _ h => ⟨h.1, h.2.symm⟩)))
  go_wp2
  go_ret
  refine ⟨?_, by rw [← HV.out]; exact HD.out _⟩
  rw [HR.out, show decide (z % 2 = 1) = ((z : Int) % 2 == 1) by rw [Bool.eq_iff_iff, beq_iff_eq, decide_eq_true_iff]; omega]
  rfl

instance (w : Wn) : Decidable (RightW w) :=
  decidable_of_iff (0 ≤ w.top ∧ w.top ≤ most + 1 ∧ (∀ p : Fin 1024, w.top ≤ p.1 → hasW w p.1 = false) ∧ (w.top = 0 ∨ hasW w ((w.top - 1).toNat % 1024) = true))
    ⟨fun h => ⟨h.1, h.2.1, fun p h1 h2 => h.2.2.1 ⟨p, h2⟩ h1, h.2.2.2⟩, fun h => ⟨h.1, h.2.1, fun p h1 => h.2.2.1 p.1 h1 p.2, h.2.2.2⟩⟩
set_option maxRecDepth 100000 in
set_option maxHeartbeats 2000000 in
theorem right10_any (a : Wn) (h64 : W64 a) (W : World) : Calls Try.prog 11 #[.agg (winC a)] W fun e W' => e = .returned (.bool (decide (RightW a))) ∧ Below W.heap.size W W' := by
  obtain ⟨V, C, hC, hV, hb, hg⟩ := boxW1 W a
  have HB := Lib.hid hb
  have HV := Lib.hid hV
  have HG := Lib.hid hg
  have x0 := hg.cell (winC_top a)
  rw [← hC]
  obtain ⟨D, hD⟩ : ∃ D, D = decide (RightW a) := ⟨_, rfl⟩
  rw [← hD]
  have HDE := Lib.hid hD
  have CH := Lib.hid (fun p hp w => has10_any a h64 p hp w)
  obtain ⟨t, ht⟩ : ∃ t, t = a.top := ⟨_, rfl⟩
  rw [← ht] at x0
  have HT := Lib.hid ht
  rw [hV] at x0
  clear hg hb hC hV hD h64 ht
  by_cases h1 : t < 0
  · have HF := Lib.hid (show D = false by rw [HDE.out]; exact decide_eq_false (fun h => by have := h.1; rw [← HT.out] at this; omega))
    clear HDE CH
    go_enter Try.func11, Try.ntmps11
    go_wp2
    go_ret
    exact ⟨by rw [HF.out]; rfl, by rw [← HV.out]; exact HB.out⟩
  by_cases h2 : 4611686018427387905 < t
  · have HF := Lib.hid (show D = false by rw [HDE.out]; exact decide_eq_false (fun h => by have := h.2.1; rw [← HT.out] at this; unfold most at this; omega))
    clear HDE CH
    go_enter Try.func11, Try.ntmps11
    go_wp2
    go_ret
    exact ⟨by rw [HF.out]; rfl, by rw [← HV.out]; exact HB.out⟩
  obtain ⟨T, rfl⟩ := Int.eq_ofNat_of_zero_le (show 0 ≤ t by omega)
  go_enter Try.func11, Try.ntmps11
  go_wp2
  rw [← HV.out]
  go_loopw [3] (fun i wr => ∃ k : Nat, T ≤ k ∧ (T ≤ 1024 → k ≤ 1024) ∧ (1024 < T → k = T) ∧ i = .int .i64 (k : Int) ∧ Hid (∀ p, T ≤ p → p < k → p < 1024 → hasW a p = false) ∧ Hid (BoxW wr W.heap.size a) ∧ Hid (Below W.heap.size W wr)) (fun i _ => 1024 - (intOf i).toNat)
  case atStart => exact ⟨T, Nat.le_refl _, fun h => h, fun _ => rfl, rfl, Lib.hid (fun p h1 h2 => absurd h2 (by omega)), HG, HB⟩
  case round =>
    clear x0 HG HB HV
    obtain ⟨k, hk1, hk2, hk3, rfl, HK, HG, HB⟩ := hrel
    by_cases hlt : k < 1024
    · have hki : (k : Int) < 1024 := by omega
      go_wp2_with (refine loadW _ (.tmp 1) W.heap.size a HG.out rfl rfl rfl ?_)
      refine (CH.out k hlt wr).mono ?_
      rintro e w2 ⟨rfl, hb⟩
      have HB2 := Lib.hid (belG HB.out hb HB.out.size)
      have HG2 := Lib.hid (HG.out.old hb (Nat.le_refl _))
      have HNO := Lib.hid (show hasW a k = true → D = false from fun h => by
        rw [HDE.out]
        exact decide_eq_false (fun h1 => by have h2 := h1.2.2.1 k (by rw [← HT.out]; omega) hlt; rw [h] at h2; cases h2))
      have HYE := Lib.hid (show hasW a k = false → ∀ p, T ≤ p → p < k + 1 → p < 1024 → hasW a p = false from fun h p h1 h2 h3 => by
        by_cases e : p = k
        · subst e; exact h
        · exact HK.out p h1 (by omega) h3)
      clear hb HB HG HK
      generalize hasW a k = u at *
      cases u with
      | true =>
        have HF := Lib.hid (HNO.out rfl)
        clear HNO HYE
        go_wp2
        go_ret
        exact ⟨by rw [HF.out]; rfl, HB2.out⟩
      | false =>
        have HYK := Lib.hid (HYE.out rfl)
        clear HNO HYE
        go_wp2
        go_roundw
        case rel => exact ⟨k + 1, by omega, by omega, by omega, by go_num, HYK, HG2, HB2⟩
        case measure => simp [intOf]; omega
    · have hki : ¬ (k : Int) < 1024 := by omega
      have HK2 := Lib.hid (show RightW a ↔ (T = 0 ∨ hasW a ((T - 1) % 1024) = true) from by
        unfold RightW
        rw [← HT.out]
        have e : ((T : Int) - 1).toNat % 1024 = (T - 1) % 1024 := by omega
        rw [e]
        refine ⟨fun h => by rcases h.2.2.2 with h | h; exact .inl (by omega); exact .inr h, fun h => ⟨by omega, by unfold most; omega, fun p h3 h4 => HK.out p (by omega) (by omega) h4, by rcases h with h | h; exact .inl (by omega); exact .inr h⟩⟩)
      have x0 := HG.out.cell (winC_top a)
      rw [← HT.out] at x0
      clear HK
      by_cases h0 : T = 0
      · subst h0
        have HF := Lib.hid (show D = true by rw [HDE.out]; exact decide_eq_true (HK2.out.2 (.inl rfl)))
        clear HDE HK2
        go_wp2
        go_ret
        exact ⟨by rw [HF.out]; rfl, HB.out⟩
      · have hT0 : ¬ (T : Int) = 0 := by omega
        have hT1 : ((T : Int) == 0) = false := beq_eq_false_iff_ne.2 hT0
        obtain ⟨q, hq⟩ : ∃ q, q = (T - 1) % 1024 := ⟨_, rfl⟩
        have hq1 : ((T : Int) - 1) % 1024 = (q : Int) := by omega
        have hq2 : ((T : Int) - 1).tmod 1024 = (q : Int) := by rw [Int.tmod_eq_emod_of_nonneg (by omega)]; exact hq1
        have hqb : q < 1024 := by omega
        have HF := Lib.hid (show D = hasW a q by
          rw [HDE.out, Bool.eq_iff_iff, decide_eq_true_iff, HK2.out, ← hq]
          exact ⟨fun h => h.resolve_left h0, .inr⟩)
        clear HDE HK2 hq
        go_wp2_with (refine loadW _ (.tmp 1) W.heap.size a HG.out rfl rfl rfl ?_)
        refine (CH.out q hqb wr).mono ?_
        rintro e w2 ⟨rfl, hb⟩
        have HB2 := Lib.hid (belG HB.out hb HB.out.size)
        rw [← HF.out]
        clear hb HF
        cases D with
        | true =>
          go_wp2
          go_ret
          exact ⟨rfl, HB2.out⟩
        | false =>
          go_wp2
          go_ret
          exact ⟨rfl, HB2.out⟩
set_option maxRecDepth 100000 in
set_option maxHeartbeats 2000000 in
theorem fresh10_any (a : Wn) (h64 : W64 a) (ht : -9223372036854774784 ≤ a.top ∧ a.top ≤ 9223372036854775807) (n : Int) (W : World) : Calls Try.prog 14 #[.agg (winC a), .int .i64 n] W fun e W' => e = .returned (.bool (decide (FreshW a n))) ∧ Below W.heap.size W W' := by
  obtain ⟨V, C, hC, hV, hb, hg⟩ := boxW1 W a
  have HB := Lib.hid hb
  have HV := Lib.hid hV
  have HG := Lib.hid hg
  have x0 := hg.cell (winC_top a)
  have CH := Lib.hid (fun p hp w => has10_any a h64 p hp w)
  rw [← hC]
  obtain ⟨D, hD⟩ : ∃ D, D = decide (FreshW a n) := ⟨_, rfl⟩
  rw [← hD]
  have HDE := Lib.hid hD
  obtain ⟨t, htt⟩ : ∃ t, t = a.top := ⟨_, rfl⟩
  rw [← htt] at x0 ht
  have HT := Lib.hid htt
  obtain ⟨t1, t2⟩ := ht
  rw [hV] at x0
  have HIFF := Lib.hid (show FreshW a n ↔ (0 ≤ n ∧ n ≤ 4611686018427387904 ∧ t - 1024 ≤ n ∧ (t ≤ n ∨ hasW a (n.toNat % 1024) = false)) by rw [htt]; exact Iff.rfl)
  clear hg hb hC hV hD h64 htt
  by_cases h1 : n < 0
  · have HF := Lib.hid (show D = false by rw [HDE.out]; exact decide_eq_false (fun h => by have := (HIFF.out.1 h).1; omega))
    clear HDE CH HIFF
    go_enter Try.func14, Try.ntmps14
    go_wp2
    go_ret
    exact ⟨by rw [HF.out]; rfl, by rw [← HV.out]; exact HB.out⟩
  by_cases h2 : 4611686018427387904 < n
  · have HF := Lib.hid (show D = false by rw [HDE.out]; exact decide_eq_false (fun h => by have := (HIFF.out.1 h).2.1; omega))
    clear HDE CH HIFF
    go_enter Try.func14, Try.ntmps14
    go_wp2
    go_ret
    exact ⟨by rw [HF.out]; rfl, by rw [← HV.out]; exact HB.out⟩
  by_cases h3 : n < t - 1024
  · have HF := Lib.hid (show D = false by rw [HDE.out]; exact decide_eq_false (fun h => by have := (HIFF.out.1 h).2.2.1; omega))
    clear HDE CH HIFF
    go_enter Try.func14, Try.ntmps14
    go_wp2
    go_ret
    exact ⟨by rw [HF.out]; rfl, by rw [← HV.out]; exact HB.out⟩
  by_cases h4 : t ≤ n
  · have HF := Lib.hid (show D = true by rw [HDE.out]; exact decide_eq_true (HIFF.out.2 ⟨by omega, by omega, by omega, .inl h4⟩))
    clear HDE CH HIFF
    go_enter Try.func14, Try.ntmps14
    go_wp2
    go_ret
    exact ⟨by rw [HF.out]; rfl, by rw [← HV.out]; exact HB.out⟩
  · obtain ⟨m, rfl⟩ := Int.eq_ofNat_of_zero_le (show 0 ≤ n by omega)
    obtain ⟨q, hq⟩ : ∃ q, q = m % 1024 := ⟨_, rfl⟩
    have hq1 : (m : Int) % 1024 = (q : Int) := by omega
    have hq2 : (m : Int).tmod 1024 = (q : Int) := by rw [Int.tmod_eq_emod_of_nonneg (by omega)]; exact hq1
    have hqb : q < 1024 := by omega
    have HF := Lib.hid (show D = !hasW a q by
      rw [HDE.out, Bool.eq_iff_iff, decide_eq_true_iff, HIFF.out]
      have e : (m : Int).toNat % 1024 = q := by omega
      rw [e]
      refine ⟨fun h => by rcases h.2.2.2 with h | h; exact absurd h h4; rw [h]; rfl, fun h => ⟨by omega, by omega, by omega, .inr (by simpa using h)⟩⟩)
    clear HDE HIFF hq
    go_enter Try.func14, Try.ntmps14
    go_upto_region 3 with (fail)
    rw [← HV.out]
    rw [← HV.out] at x0
    go_wp2_with (refine loadW _ (.tmp 2) W.heap.size a HG.out rfl rfl rfl ?_)
    refine (CH.out q hqb V).mono ?_
    rintro e w2 ⟨rfl, hb⟩
    have HB2 := Lib.hid (belG HB.out hb HB.out.size)
    clear hb
    generalize hasW a q = u at *
    cases u with
    | true =>
      go_wp2
      go_ret
      exact ⟨by rw [HF.out]; rfl, HB2.out⟩
    | false =>
      go_wp2
      go_ret
      exact ⟨by rw [HF.out]; rfl, HB2.out⟩
end Go.Proofs.Ytdnfggjklblpnaa
/- The document's answers (win): Taken. -/

namespace Go.Proofs.Ytdnfggjklblpnaa
open Go.RowKit

/-- the numbers from lo on, k of them, that were taken -/
def takF (a : Wn) (lo : Nat) : Nat → List Int
  | 0 => []
  | k + 1 => takF a lo k ++ if hasW a ((lo + k) % 1024) = true then [((lo + k : Nat) : Int)] else []
set_option maxRecDepth 100000 in
theorem takF_len (a : Wn) (lo : Nat) : ∀ k, (takF a lo k).length ≤ k
  | 0 => Nat.le_refl _
  | k + 1 => by
    have := takF_len a lo k
    unfold takF
    rw [List.length_append]
    split <;> simp <;> omega
set_option maxRecDepth 100000 in
theorem takF_mem (a : Wn) (lo : Nat) : ∀ k (m : Int), m ∈ takF a lo k ↔ ∃ q : Nat, q < k ∧ m = ((lo + q : Nat) : Int) ∧ hasW a ((lo + q) % 1024) = true
  | 0, m => by simp [takF]
  | k + 1, m => by
    unfold takF
    rw [List.mem_append, takF_mem a lo k m]
    constructor
    · rintro (⟨q, h1, h2, h3⟩ | h)
      · exact ⟨q, by omega, h2, h3⟩
      · split at h
        · rename_i h0
          exact ⟨k, by omega, by simpa using h, h0⟩
        · simp at h
    · rintro ⟨q, h1, h2, h3⟩
      by_cases e : q = k
      · subst e
        right
        rw [if_pos h3, h2]
        simp
      · exact .inl ⟨q, by omega, h2, h3⟩
set_option maxRecDepth 100000 in
theorem takF_nodup (a : Wn) (lo : Nat) : ∀ k, (takF a lo k).Nodup
  | 0 => List.nodup_nil
  | k + 1 => by
    unfold takF
    rw [List.nodup_append]
    refine ⟨takF_nodup a lo k, by split <;> simp, fun x hx y hy e => ?_⟩
    subst e
    obtain ⟨q, h1, h2, -⟩ := (takF_mem a lo k x).1 hx
    split at hy
    · have : x = ((lo + k : Nat) : Int) := by simpa using hy
      omega
    · simp at hy
set_option maxRecDepth 100000 in
set_option maxHeartbeats 2000000 in
theorem taken10_any (a : Wn) (h64 : W64 a) (T lo : Nat) (hT : a.top = (T : Int)) (hTb : T ≤ 4611686018427387905) (hlo : lo = T - 1024) (W : World) :
    Calls Try.prog 22 #[.agg (winC a)] W fun e W' => (∃ v, e = .returned v ∧ OwI W' W.heap.size v (takF a lo (T - lo))) ∧ Below W.heap.size W W' := by
  obtain ⟨V, C, hC, hV, hb, hg⟩ := boxW1 W a
  have HB := Lib.hid hb
  have HV := Lib.hid hV
  have HG := Lib.hid hg
  have x0 := hg.cell (winC_top a)
  have CH := Lib.hid (fun p hp w => has10_any a h64 p hp w)
  have HVS := Lib.hid (show W.heap.size + 1 = V.heap.size by rw [hV]; simp)
  rw [← hC]
  rw [hT] at x0
  have HT := Lib.hid hT
  rw [hV] at x0
  have HLO := Lib.hid hlo
  clear hg hb hC hV h64 hT
  go_enter Try.func22, Try.ntmps22
  go_upto_region 2 with (fail)
  rw [← HV.out]
  rw [← HV.out] at x0
  clear HV
  go_cut [4] (fun t4 wx => t4 = .int .i64 (lo : Int) ∧ wx = V)
  case first =>
    go_wp2_with fail
    all_goals
      go_meet
      case rel => exact ⟨by congr 1; have h1 := HLO.out; omega, rfl⟩
  case rest =>
  obtain ⟨rfl, rfl⟩ := hcut
  have hloT : lo ≤ T := by omega
  clear hlo
  go_wp2_with fail
  go_loopw [3, 4] (fun vo iv wr => ∃ i : Nat, lo ≤ i ∧ i ≤ T ∧ iv = .int .i64 (i : Int) ∧ Hid (OwI wr (W.heap.size + 1) vo (takF a lo (i - lo))) ∧ Hid (BoxW wr W.heap.size a) ∧ Hid (Below W.heap.size W wr) ∧ Hid (W.heap.size + 1 ≤ wr.heap.size)) (fun _ i _ => T - (intOf i).toNat)
  case atStart => exact ⟨lo, Nat.le_refl _, hloT, rfl, Lib.hid (by rw [Nat.sub_self]; exact OwI.nil), HG, HB, Lib.hid (by rw [HVS.out]; exact Nat.le_refl _)⟩
  case round =>
    clear x0 HG HB
    obtain ⟨i, hi0, hi1, rfl, HO, HG, HB, HSZ⟩ := hrel
    obtain ⟨k, hk⟩ : ∃ k, k = i - lo := ⟨_, rfl⟩
    rw [← hk] at HO
    have hi : i = lo + k := by omega
    have x0 := HG.out.cell (winC_top a)
    rw [HT.out] at x0
    by_cases hlt : i < T
    · have hki : (i : Int) < (T : Int) := by omega
      obtain ⟨q, hq⟩ : ∃ q, q = i % 1024 := ⟨_, rfl⟩
      have hq1 : (i : Int) % 1024 = (q : Int) := by omega
      have hq2 : (i : Int).tmod 1024 = (q : Int) := by rw [Int.tmod_eq_emod_of_nonneg (by omega)]; exact hq1
      have hqb : q < 1024 := by omega
      have HY := Lib.hid (show hasW a q = true → takF a lo (k + 1) = takF a lo k ++ [(i : Int)] from fun h => by show _ ++ _ = _; rw [← hi, if_pos (by rw [← hq]; exact h)])
      have HN := Lib.hid (show hasW a q = false → takF a lo (k + 1) = takF a lo k from fun h => by show _ ++ _ = _; rw [← hi, if_neg (by rw [← hq, h]; decide), List.append_nil])
      have HL := Lib.hid (takF_len a lo k)
      have HI := Lib.hid (show i + 1 - lo = k + 1 by omega)
      have HKB := Lib.hid (show lo ≤ i + 1 ∧ i + 1 ≤ T by omega)
      have HLT := Lib.hid (show k ≤ 2000 from by have h1 := HLO.out; omega)
      clear hq hk hi
      go_wp2_with (refine loadW _ (.tmp 1) W.heap.size a HG.out rfl rfl rfl ?_)
      refine (CH.out q hqb wr).mono ?_
      rintro e w2 ⟨rfl, hb⟩
      have HB2 := Lib.hid (belG HB.out hb HB.out.size)
      have HG2 := Lib.hid (HG.out.old hb (Nat.le_refl _))
      have HO2 := Lib.hid (HO.out.call hb)
      have HS2 := Lib.hid (Nat.le_trans HSZ.out hb.size)
      clear hb HB HG HO HSZ x0
      generalize hasW a q = u at *
      cases u with
      | true =>
        have HE := Lib.hid (HY.out rfl)
        clear HY HN
        go_wp2_with (at_builtin; refine wpList_appI _ rfl (.tmp 21) (.tmp 23) rfl (W.heap.size + 1) _ (takF a lo k) [(i : Int)] rfl (by exact HO2.out.alloc _) (some ⟨w2.heap.size, 0, none⟩) 1 1 (w2.heap.size + 1) rfl rfl (by exact rdi_new1 _ _) (by have h1 := HL.out; have h2 := HLT.out; show _ + 1 ≤ _; omega) (by exact le_alloc HS2.out _) ?_; intro v6 w6 hown6 hgrow6; have HO6 := Lib.hid hown6; have HB6 := Lib.hid (OwI.below (base := W.heap.size + 1) (w0 := w2) (HO2.out.alloc _) ((Below.refl (W.heap.size + 1) w2).alloc HS2.out _) hgrow6 (le_alloc HS2.out _)); clear hown6 hgrow6)
        go_roundw
        case rel => exact ⟨i + 1, HKB.out.1, HKB.out.2, by go_num, Lib.hid (by rw [HI.out, HE.out]; exact HO6.out), Lib.hid ((HB6.out.block W.heap.size (by omega)).trans HG2.out), Lib.hid (HB2.out.trans (HB6.out.mono (by omega))), Lib.hid (Nat.le_trans HS2.out HB6.out.size)⟩
        case measure => simp [intOf]; omega
      | false =>
        have HE := Lib.hid (HN.out rfl)
        clear HY HN
        go_wp2
        go_roundw
        case rel => exact ⟨i + 1, HKB.out.1, HKB.out.2, by go_num, Lib.hid (by rw [HI.out, HE.out]; exact HO2.out), HG2, HB2, HS2⟩
        case measure => simp [intOf]; omega
    · have hki : ¬ (i : Int) < (T : Int) := by omega
      have HE := Lib.hid (show T - lo = k by omega)
      clear hk hi
      go_wp2
      go_ret
      refine ⟨⟨_, rfl, ?_⟩, HB.out⟩
      rw [HE.out]
      obtain ⟨h1, h2⟩ := HO.out
      refine ⟨h1, ?_⟩
      rcases h2 with h0 | ⟨g, cap, cur, e, hbg, h3⟩
      · exact .inl h0
      · exact .inr ⟨g, cap, cur, e, by omega, h3⟩
end Go.Proofs.Ytdnfggjklblpnaa
/- The document's answer (win): Mark, plain. -/

namespace Go.Proofs.Ytdnfggjklblpnaa
open Go.RowKit

/-- the places of numbers that are 1024 or less below t -/
def plG (A : List Int) (t : Int) (p : Nat) : Bool := A.any fun m => decide (t - 1024 ≤ m) && decide (m % 1024 = (p : Int))
set_option maxRecDepth 100000 in
theorem plG_true {A : List Int} {t : Int} {p : Nat} : plG A t p = true ↔ ∃ m ∈ A, t - 1024 ≤ m ∧ m % 1024 = (p : Int) := by
  unfold plG
  rw [List.any_eq_true]
  simp only [Bool.and_eq_true, decide_eq_true_eq]
set_option maxRecDepth 100000 in
theorem plG_append (A B : List Int) (t : Int) (p : Nat) : plG (A ++ B) t p = (plG A t p || plG B t p) := by unfold plG; rw [List.any_append]
set_option maxRecDepth 100000 in
theorem plG_skip {A : List Int} {t : Int} {i : Nat} (hi : i < A.length) (h : A[i] < t - 1024) : plG (A.take (i + 1)) t = plG (A.take i) t := by
  funext p
  rw [List.take_succ_eq_append_getElem hi, plG_append]
  unfold plG
  simp only [List.any_cons, List.any_nil, Bool.or_false]
  rw [decide_eq_false (show ¬ t - 1024 ≤ A[i] by omega)]
  simp
set_option maxRecDepth 100000 in
theorem plG_more {A : List Int} {t : Int} {i p : Nat} (hi : i < A.length) (h : t - 1024 ≤ A[i]) (hp : A[i] % 1024 = (p : Int)) : plG (A.take (i + 1)) t = fun q => plG (A.take i) t q || decide (q = p) := by
  funext q
  rw [List.take_succ_eq_append_getElem hi, plG_append]
  congr 1
  unfold plG
  simp only [List.any_cons, List.any_nil, Bool.or_false]
  rw [decide_eq_true h, Bool.true_and]
  exact decide_eq_decide.2 (by omega)
set_option maxRecDepth 100000 in
theorem plG_free {A : List Int} {t : Int} {i p : Nat} (hd : A.Nodup) (hA : ∀ m ∈ A, m < t) (hi : i < A.length) (h : t - 1024 ≤ A[i]) (hp : A[i] % 1024 = (p : Int)) : plG (A.take i) t p = false := by
  rw [Bool.eq_false_iff]
  intro hc
  obtain ⟨m, hm, h1, h2⟩ := plG_true.1 hc
  obtain ⟨j, hj, rfl⟩ := List.getElem_of_mem hm
  rw [List.length_take] at hj
  rw [List.getElem_take] at h1 h2
  have h3 := hA _ (List.getElem_mem hi)
  have h4 := hA _ (List.getElem_mem (show j < A.length by omega))
  have h5 := List.pairwise_iff_getElem.1 hd j i (by omega) hi (by omega)
  exact h5 (by omega)
/-- the numbers of which the new window's places are made -/
def allF (w : Wn) (T n : Nat) : List Int := takF w (T - 1024) (T - (T - 1024)) ++ [(n : Int)]
set_option maxRecDepth 100000 in
theorem allF_len (w : Wn) (T n : Nat) : (allF w T n).length ≤ 1025 := by
  unfold allF
  have := takF_len w (T - 1024) (T - (T - 1024))
  rw [List.length_append, List.length_singleton]
  omega
set_option maxRecDepth 100000 in
theorem allF_lt {w : Wn} {T n : Nat} (hT : w.top = (T : Int)) : ∀ m ∈ allF w T n, m < topW w n ∧ 0 ≤ m := by
  intro m hm
  have ht : topW w n = if w.top ≤ n then (n : Int) + 1 else w.top := rfl
  unfold allF at hm
  rcases List.mem_append.1 hm with h | h
  · obtain ⟨q, h1, h2, -⟩ := (takF_mem _ _ _ _).1 h
    rw [ht]
    split <;> omega
  · obtain rfl : m = (n : Int) := by simpa using h
    rw [ht]
    split <;> omega
set_option maxRecDepth 100000 in
theorem allF_nodup {w : Wn} {T n : Nat} (hT : w.top = (T : Int)) (hf : FreshW w n) : (allF w T n).Nodup := by
  unfold allF
  rw [List.nodup_append]
  refine ⟨takF_nodup _ _ _, by simp, fun x hx y hy e => ?_⟩
  subst e
  obtain rfl : x = (n : Int) := by simpa using hy
  obtain ⟨q, h1, h2, h3⟩ := (takF_mem _ _ _ _).1 hx
  rcases hf.2.2.2 with h | h
  · omega
  · rw [show (n : Int).toNat % 1024 = (T - 1024 + q) % 1024 by omega, h3] at h
    cases h
set_option maxRecDepth 100000 in
theorem allF_mark {w : Wn} {T n : Nat} (hR : RightW w) (hf : FreshW w n) (hT : w.top = (T : Int)) (p : Nat) (hp : p < 1024) : plG (allF w T n) (topW w n) p = markG w n (topW w n) p := by
  have ht : topW w n = if w.top ≤ n then (n : Int) + 1 else w.top := rfl
  unfold allF markG
  rw [plG_append]
  have e1 : plG (takF w (T - 1024) (T - (T - 1024))) (topW w n) p = (hasW w p && decide (topW w n - 1024 ≤ numW w.top p)) := by
    rw [Bool.eq_iff_iff, plG_true, Bool.and_eq_true, decide_eq_true_iff]
    constructor
    · rintro ⟨m, hm, h1, h2⟩
      obtain ⟨q, h3, h4, h5⟩ := (takF_mem _ _ _ _).1 hm
      have e := numW_of (top := w.top) (n := m) (p := p) (by omega) (by omega) h2
      rw [e]
      refine ⟨?_, h1⟩
      rw [show p = (T - 1024 + q) % 1024 by omega]
      exact h5
    · rintro ⟨h1, h2⟩
      have h3 := hR.num hp h1
      have h4 := numW_bd w.top p
      have h5 := numW_mod w.top hp
      refine ⟨numW w.top p, (takF_mem _ _ _ _).2 ⟨(numW w.top p).toNat - (T - 1024), by omega, by omega, ?_⟩, h2, h5⟩
      rw [show (T - 1024 + ((numW w.top p).toNat - (T - 1024))) % 1024 = p by omega]
      exact h1
  have e2 : plG [(n : Int)] (topW w n) p = decide (p = n % 1024) := by
    unfold plG
    simp only [List.any_cons, List.any_nil, Bool.or_false]
    have h1 := hf.2.2.1
    rw [decide_eq_true (show topW w n - 1024 ≤ (n : Int) by rw [ht]; split <;> omega), Bool.true_and]
    exact decide_eq_decide.2 (by omega)
  rw [e1, e2]
end Go.Proofs.Ytdnfggjklblpnaa
