
/- The document's answers: Figures, Digits, Value, Bcd. -/
import Derived.Test.YtpfjecjfooefoaaDoorJ08
import Derived.Deep.QuietTactic
import Derived.BigQuiet
import Derived.IntWalk
namespace Go.Proofs.YtpfjecjfooefoaaDoor
open Go.RowKit

set_option maxRecDepth 100000 in
theorem figures_any (s : ByteArray) (w : World) (hs : s.size ≤ 1000000) :
    Calls Tryd.prog 84 #[.string s] w fun e w' => e = .returned (.bool (allFig s.data.toList)) ∧ w = w' := by
  go_enter Tryd.func84, Tryd.ntmps84
  go_wp2
  go_loop [3] (fun i => ∃ k : Nat, k ≤ s.size ∧ i = .int .i64 k ∧ Hid (allFig (s.data.toList.take k) = true)) (fun i => s.size - (intOf i).toNat)
  case atStart => exact ⟨0, Nat.zero_le _, rfl, Lib.hid rfl⟩
  case round =>
    obtain ⟨k, hk, rfl, hall⟩ := hrel
    by_cases hlt : k < s.size
    · cases hf : isFig s[k] with
      | true =>
        have hd := (isFig_iff _).1 hf
        have e2 := all_snoc (s.data.toList.take k) s[k]
        rw [← bytes_take s k hlt, hall.out, hf] at e2
        have E2 := Lib.hid e2
        clear hf e2
        have hd1 : (48 : Int) ≤ s[k].toNat := by omega
        have hd2 : (s[k].toNat : Int) ≤ 57 := by omega
        go_wp2
        go_round
        case rel => exact ⟨k + 1, by omega, by go_num, Lib.hid E2.out⟩
        case measure => simp [intOf]; omega
      | false =>
        have hno : ¬ (48 ≤ s[k].toNat ∧ s[k].toNat ≤ 57) := by rw [← isFig_iff, hf]; simp
        have E := Lib.hid (all_not s.data.toList k (by rw [bytes_len]; exact hlt) (by rw [get_bytes s k hlt]; exact hf))
        clear hf
        by_cases h1 : (s[k].toNat : Int) < 48
        · clear hno
          go_wp2
          go_ret
          exact ⟨by rw [E.out]; rfl, rfl⟩
        · have h2 : (57 : Int) < s[k].toNat := by omega
          have h3 : (48 : Int) ≤ s[k].toNat := by omega
          clear hno h1
          go_wp2
          go_ret
          exact ⟨by rw [E.out]; rfl, rfl⟩
    · have e : s.data.toList.take k = s.data.toList := List.take_of_length_le (by rw [bytes_len]; omega)
      have E := hall.out
      rw [e] at E
      have HE := Lib.hid E
      clear e E
      go_wp2
      go_ret
      exact ⟨by rw [HE.out]; rfl, rfl⟩

set_option maxRecDepth 100000 in
/-- a power, under a name of its own -/
theorem power_at (b i P : Nat) (hP : Hid (P = b ^ i)) (h1 : 1 ≤ b) (h2 : P ≤ 9223372036854775807) (hi : i ≤ 63) (w : World) :
    Calls Tryd.prog 89 #[.int .i64 (b : Int), .int .i64 (i : Int)] w fun e w' => e = .returned (.int .i64 (P : Int)) ∧ w = w' := by
  have e : ((P : Nat) : Int) = (b : Int) ^ i := by rw [hP.out, Int.natCast_pow]
  have := power_any (b : Int) i w (by omega) (by rw [← e]; omega) hi
  rwa [← e] at this
set_option maxRecDepth 100000 in
theorem pow_named (b i : Nat) (h1 : 1 ≤ b) : ∃ P : Nat, Hid (P = b ^ i) ∧ 1 ≤ P := ⟨b ^ i, rfl, Nat.pow_pos (by omega)⟩

def refDigits (n w : Int) (e : Ending) : Prop := e = .returned (.tuple #[.string ⟨(digL n w).toArray⟩, .int .i64 (digE n w)])
set_option maxRecDepth 100000 in
theorem digE_no {n w : Int} (h : ¬ digOk n w = true) : digL n w = [] ∧ digE n w = 1 := by unfold digL digE; rw [if_neg h, if_neg h]; exact ⟨rfl, rfl⟩
set_option maxRecDepth 100000 in
theorem digE_yes {n w : Nat} (h : digOk n w = true) : digL n w = dgL 48 10 n w ∧ digE n w = 0 := by unfold digL digE; rw [if_pos h, if_pos h]; exact ⟨rfl, rfl⟩

set_option maxRecDepth 100000 in
set_option maxHeartbeats 1000000 in
theorem refDigits_any (n w : Int) (W : World) (hn : n ≤ 9223372036854775807) :
    Calls Tryd.prog 81 #[.int .i64 n, .int .i64 w] W fun e W' => e = .returned (.tuple #[.string ⟨(digL n w).toArray⟩, .int .i64 (digE n w)]) ∧ Below W.heap.size W W' := by
  by_cases h : w < 1 ∨ 18 < w ∨ n < 0
  · obtain ⟨e1, e2⟩ := digE_no (n := n) (w := w) (by rw [digOk_iff]; omega)
    rw [e1, e2]
    by_cases h1 : w < 1
    · go_enter Tryd.func81, Tryd.ntmps81
      go_wp2
      go_ret2
      exact ⟨rfl, Below.refl _ _⟩
    · by_cases h2 : 18 < w
      · go_enter Tryd.func81, Tryd.ntmps81
        go_wp2
        go_ret2
        exact ⟨rfl, Below.refl _ _⟩
      · have h3 : n < 0 := by omega
        go_enter Tryd.func81, Tryd.ntmps81
        go_wp2
        go_ret2
        exact ⟨rfl, Below.refl _ _⟩
  · obtain ⟨n, rfl⟩ := Int.eq_ofNat_of_zero_le (show 0 ≤ n by omega)
    obtain ⟨w, rfl⟩ := Int.eq_ofNat_of_zero_le (show 0 ≤ w by omega)
    obtain ⟨P, hP, hP1⟩ := pow_named 10 w (by omega)
    have hPb : P ≤ 1000000000000000000 := by
      rw [hP.out]
      exact Nat.le_trans (Nat.pow_le_pow_right (by omega) (show w ≤ 18 by omega)) (by decide)
    by_cases hlt : n < P
    · obtain ⟨e1, e2⟩ := digE_yes (n := n) (w := w) (by rw [digOk_iff]; simp only [Int.toNat_natCast]; rw [← hP.out]; omega)
      rw [e1, e2]
      have hlen := dgL_length 48 10 n w
      have hget := fun p h => dgL_get 48 10 n w p h
      have HG := Lib.hid hget
      have HLn := Lib.hid hlen
      have hw1 : 1 ≤ w := by omega
      have hw2 : w ≤ 18 := by omega
      have d0 : decide (P ≤ n) = false := by simp; omega
      have d1 : decide ((w : Int) < 1) = false := by simp; omega
      have d2 : decide (18 < (w : Int)) = false := by simp; omega
      have d3 : decide ((n : Int) < 0) = false := by simp
      clear hget hlen e1 e2 h
      generalize hD : dgL 48 10 n w = D at *
      clear hD
      go_enter Tryd.func81, Tryd.ntmps81
      go_wp2_with fail
      refine (power_at 10 w P hP (by omega) (by omega) (by omega) _).mono ?_
      rintro e W1 ⟨rfl, rfl⟩
      go_wp2
      go_loopw [6, 7] (fun v i wr => ∃ p : Int, -1 ≤ p ∧ p < w ∧ i = .int .i64 p ∧ Ow wr W.heap.size v (D.take (w - 1 - p).toNat) ∧ Below W.heap.size W wr) (fun _ i _ => (intOf i + 1).toNat)
      case atStart => exact ⟨(w : Int) - 1, by omega, by omega, rfl, by rw [show ((w : Int) - 1 - ((w : Int) - 1)).toNat = 0 by omega]; exact Ow.nil, Below.refl _ _⟩
      case round =>
        obtain ⟨p, hp1, hp2, rfl, hown, hbel⟩ := hrel
        have HO := Lib.hid hown
        have HB := Lib.hid hbel
        clear hown hbel
        by_cases hp : 0 ≤ p
        · obtain ⟨p, rfl⟩ := Int.eq_ofNat_of_zero_le hp
          obtain ⟨Q, hQ, hQ1⟩ := pow_named 10 p (by omega)
          have hQb : Q ≤ 1000000000000000000 := by
            rw [hQ.out]
            exact Nat.le_trans (Nat.pow_le_pow_right (by omega) (show p ≤ 18 by omega)) (by decide)
          have hsz := HB.out.size
          have hx0 : 0 ≤ (n : Int) / (Q : Int) % 10 := Int.emod_nonneg _ (by omega)
          have hx1 : (n : Int) / (Q : Int) % 10 < 10 := Int.emod_lt_of_pos _ (by omega)
          have hdv : 0 ≤ (n : Int) / (Q : Int) := Int.ediv_nonneg (by omega) (by omega)
          have hdv2 : (n : Int) / (Q : Int) ≤ 9223372036854775807 := Int.le_trans (Int.ediv_le_self _ (by omega)) (by omega)
          have hlk : (D.take ((w : Int) - 1 - p).toNat).length ≤ 18 := by rw [List.length_take]; omega
          have hnext : D.take ((w : Int) - 1 - p).toNat ++ [UInt8.ofNat (48 + (n : Int) / (Q : Int) % 10).toNat] = D.take ((w : Int) - 1 - ((p : Int) - 1)).toNat := by
            have h1 : ((w : Int) - 1 - ((p : Int) - 1)).toNat = ((w : Int) - 1 - p).toNat + 1 := by omega
            have h2 : ((w : Int) - 1 - p).toNat < D.length := by rw [HLn.out]; omega
            rw [h1, List.take_succ_eq_append_getElem h2]
            congr 2
            rw [HG.out _ h2, dgAt, show w - 1 - ((w : Int) - 1 - p).toNat = p by omega, ← hQ.out]
            congr 1
          have HN := Lib.hid hnext
          clear hnext
          generalize hX : (48 : Int) + (n : Int) / (Q : Int) % 10 = X at *
          have hX0 : 0 ≤ X := by omega
          have hX1 : X < 256 := by omega
          go_wp2_with fail
          refine (power_at 10 p Q hQ (by omega) (by omega) (by omega) _).mono ?_
          rintro e W2 ⟨rfl, rfl⟩
          go_wp2_with (at_builtin; refine wpList_app rfl _ (.tmp 30) (.tmp 38) rfl W.heap.size _ _ [UInt8.ofNat X.toNat] rfl (by exact HO.out.alloc _) ⟨_, 0, none⟩ 1 _ rfl rfl (by exact news1 _ X hX0 hX1) (by simp only [List.length_cons, List.length_nil]; omega) (by exact le_alloc hsz _) ?_; intro v2 w2 hown2 hgrow2; have HB2 := Lib.hid (Ow.below (w0 := W) (by exact HO.out.alloc _) (by exact HB.out.alloc hsz _) hgrow2 (by exact le_alloc hsz _)); rw [HN.out] at hown2; have HW2 := Lib.hid hown2; clear hgrow2 hown2)
          go_roundw
          case rel => exact ⟨(p : Int) - 1, by omega, by omega, rfl, HW2.out, HB2.out⟩
          case measure => simp [intOf]
        · obtain rfl : p = -1 := by omega
          have hst : ∀ v, Ow wr W.heap.size v (D.take ((w : Int) - 1 - (-1)).toNat) → (convert 27 9 v).run Tryd.prog wr = .ok (.string ⟨D.toArray⟩) wr := by
            intro v hv
            rw [List.take_of_length_le (by rw [HLn.out]; omega)] at hv
            obtain ⟨A', c', rfl, _, _, hr'⟩ := hv.sl
            exact run_str hr' c' _ _ _ Tryd.underlying27 Tryd.underlying5 Tryd.underlying9
          have hst' := hst _ HO.out
          clear hst
          go_wp2
          go_ret2
          exact ⟨rfl, HB.out⟩
    · obtain ⟨e1, e2⟩ := digE_no (n := n) (w := w) (by rw [digOk_iff]; simp only [Int.toNat_natCast]; rw [← hP.out]; omega)
      rw [e1, e2]
      go_enter Tryd.func81, Tryd.ntmps81
      go_wp2_with fail
      refine (power_at 10 w P hP (by omega) (by omega) (by omega) _).mono ?_
      rintro e W1 ⟨rfl, rfl⟩
      go_wp2
      go_ret2
      exact ⟨rfl, Below.refl _ _⟩

set_option maxRecDepth 100000 in
theorem val_scale (l : List UInt8) (n k : Nat) (hn : l.length = n) (hk : k < n) (c : UInt8) (hc : l[k]? = some c) (_h48 : 48 ≤ c.toNat) (Q : Nat) (hQ : Q = 10 ^ (n - 1 - k)) :
    val (l.take k) * 10 ^ (n - k) + (c.toNat - 48) * Q = val (l.take (k + 1)) * 10 ^ (n - (k + 1)) := by
  subst hn
  have e : l[k] = c := by rw [List.getElem?_eq_getElem hk] at hc; exact Option.some.inj hc
  rw [take_snoc l k hk, e, val_snoc, show l.length - (k + 1) = l.length - 1 - k by omega, ← hQ, show l.length - k = (l.length - 1 - k) + 1 by omega, Nat.pow_succ, ← hQ, Nat.add_mul]
  congr 1
  rw [Nat.mul_comm Q 10, ← Nat.mul_assoc, Nat.mul_comm (val _) 10]
set_option maxRecDepth 100000 in
theorem val_scale_lt (l : List UInt8) (n k : Nat) (hn : l.length = n) (hk : k ≤ n) (h : allFig (l.take k) = true) : val (l.take k) * 10 ^ (n - k) < 10 ^ n := by
  subst hn
  have h1 := val_lt _ h
  rw [List.length_take, Nat.min_eq_left hk] at h1
  have h2 : 10 ^ l.length = 10 ^ k * 10 ^ (l.length - k) := by rw [← Nat.pow_add]; congr 1; omega
  rw [h2]
  exact Nat.mul_lt_mul_of_pos_right h1 (Nat.pow_pos (by omega))

set_option maxRecDepth 100000 in
set_option maxHeartbeats 1000000 in
theorem refValue_any (s : ByteArray) (W : World) (hs : s.size ≤ 1000000) :
    Calls Tryd.prog 57 #[.string s] W fun e W' => e = .returned (.tuple #[.int .i64 (valR s.data.toList).1, .int .i64 (valR s.data.toList).2]) ∧ Below W.heap.size W W' := by
  by_cases h1 : s.size < 1
  · rw [valR_len _ (by rw [bytes_len]; omega)]
    go_enter Tryd.func57, Tryd.ntmps57
    go_wp2
    go_ret2
    exact ⟨rfl, Below.refl _ _⟩
  by_cases h2 : 18 < s.size
  · rw [valR_len _ (by rw [bytes_len]; omega)]
    go_enter Tryd.func57, Tryd.ntmps57
    go_wp2
    go_ret2
    exact ⟨rfl, Below.refl _ _⟩
  have hF := Lib.hid (fun W => figures_any s W hs)
  have hL := bytes_len s
  cases hfig : allFig s.data.toList with
  | false =>
    have E := Lib.hid (valR_no s.data.toList hfig)
    rw [hfig] at hF
    clear hfig hL
    go_enter Tryd.func57, Tryd.ntmps57
    go_wp2_with fail
    refine (hF.out _).mono ?_
    rintro e W1 ⟨rfl, rfl⟩
    go_wp2
    go_ret2
    exact ⟨by rw [E.out]; rfl, Below.refl _ _⟩
  | true =>
    have E := Lib.hid (valR_ok s.data.toList (by omega) (by omega) hfig)
    rw [hfig] at hF
    have HF := Lib.hid hfig
    have HL := Lib.hid hL
    have d1 : decide ((s.size : Int) < 1) = false := by simp; omega
    have d2 : decide (18 < (s.size : Int)) = false := by simp; omega
    clear hfig hL
    go_enter Tryd.func57, Tryd.ntmps57
    go_wp2_with fail
    refine (hF.out _).mono ?_
    rintro e W1 ⟨rfl, rfl⟩
    clear hF
    go_wp2
    go_loopw [4, 5] (fun n i wr => ∃ (k N : Nat), k ≤ s.size ∧ i = .int .i64 k ∧ n = .int .i64 N ∧ Hid (N = val (s.data.toList.take k) * 10 ^ (s.size - k)) ∧ N < 1000000000000000000 ∧ Below W.heap.size W wr) (fun _ i _ => s.size - (intOf i).toNat)
    case atStart => exact ⟨0, 0, Nat.zero_le _, rfl, rfl, Lib.hid (by simp [val]), by omega, Below.refl _ _⟩
    case round =>
      obtain ⟨k, N, hk, rfl, rfl, hN, hNb, hbel⟩ := hrel
      have HB := Lib.hid hbel
      clear hbel
      by_cases hlt : k < s.size
      · obtain ⟨Q, hQ, hQ1⟩ := pow_named 10 (s.size - 1 - k) (by omega)
        have hQb : Q ≤ 1000000000000000000 := by
          rw [hQ.out]
          exact Nat.le_trans (Nat.pow_le_pow_right (by omega) (show s.size - 1 - k ≤ 18 by omega)) (by decide)
        have hfk : 48 ≤ s[k].toNat ∧ s[k].toNat ≤ 57 := by
          have := HF.out
          unfold allFig at this
          rw [List.all_eq_true] at this
          exact (isFig_iff _).1 (this _ (List.getElem_mem (show k < s.data.toList.length by rw [HL.out]; exact hlt)))
        have hstep := val_scale s.data.toList s.size k HL.out hlt s[k] (by rw [List.getElem?_eq_getElem (by rw [HL.out]; exact hlt)]; rfl) hfk.1 Q hQ.out
        have hlt2 := val_scale_lt s.data.toList s.size (k + 1) HL.out (by omega) (by
          have := HF.out
          unfold allFig at this ⊢
          rw [List.all_eq_true] at this ⊢
          exact fun x hx => this x (List.mem_of_mem_take hx))
        have h18 : 10 ^ s.size ≤ 10 ^ 18 := Nat.pow_le_pow_right (by omega) (by omega)
        rw [← hN.out] at hstep
        rw [← hstep] at hlt2
        obtain ⟨M, hM⟩ : ∃ M, M = (s[k].toNat - 48) * Q := ⟨_, rfl⟩
        rw [← hM] at hstep hlt2
        obtain ⟨j, hj⟩ : ∃ j, j = s.size - 1 - k := ⟨_, rfl⟩
        obtain ⟨d, hd⟩ : ∃ d, d = s[k].toNat - 48 := ⟨_, rfl⟩
        rw [← hj] at hQ
        rw [← hd] at hM
        have w1 : IntKind.i64.wrap ((s[k].toNat : Int) - 48) = (d : Int) := by rw [IntKind.wrap_i64]; omega
        have w2 : IntKind.i64.wrap ((s.size : Int) - 1) = (s.size : Int) - 1 := by rw [IntKind.wrap_i64]; omega
        have w3 : IntKind.i64.wrap ((s.size : Int) - 1 - (k : Int)) = (j : Int) := by rw [IntKind.wrap_i64]; omega
        have hMi : (M : Int) = (d : Int) * (Q : Int) := by rw [hM, Int.natCast_mul]
        have w4 : IntKind.i64.wrap ((d : Int) * (Q : Int)) = (M : Int) := by rw [IntKind.wrap_i64]; omega
        have w5 : IntKind.i64.wrap ((N : Int) + (M : Int)) = ((N + M : Nat) : Int) := by rw [IntKind.wrap_i64]; omega
        have hb1 : N + M < 1000000000000000000 := by omega
        have hj2 : j ≤ 63 := by omega
        have HS := Lib.hid hstep
        have hltI : (k : Int) < (s.size : Int) := by omega
        have hP := Lib.hid (fun W => power_at 10 j Q hQ (by omega) (by omega) hj2 W)
        have w6 : (s[k].toNat : Int) < 256 := by omega
        clear hM hj hd hMi hlt2 h18 hstep hfk hj2
        go_wp2_with fail
        go_quiet ((go_at_call 89; exact Calls.quiet_of_same ((hP.out _).mono fun _ _ h => ⟨h.1, h.2.symm⟩)))
        clear w1 w2 w3 w4 w5
        go_wp2
        go_roundw
        case rel => exact ⟨k + 1, N + M, by omega, by go_num, rfl, Lib.hid HS.out, by omega, below_drewN HB.out _⟩
        case measure => simp [intOf]; omega
      · have hkl : k = s.size := by omega
        have e := hN.out
        rw [hkl, List.take_of_length_le (by rw [HL.out]; omega), Nat.sub_self, Nat.pow_zero, Nat.mul_one] at e
        have HE := Lib.hid e
        clear e hkl hN
        go_wp2
        go_ret2
        exact ⟨by rw [E.out, ← HE.out]; rfl, HB.out⟩

set_option maxRecDepth 100000 in
theorem pair_next (t : List UInt8) (k : Nat) (h2 : t.length % 2 = 0) (hk : 2 * k + 1 < t.length) (a b : UInt8) (ha : t[2 * k]? = some a) (hb : t[2 * k + 1]? = some b) (hf : allFig t = true) :
    (packL gFig t).take k ++ [UInt8.ofNat (16 * (a.toNat - 48) + (b.toNat - 48))] = (packL gFig t).take (k + 1) := by
  have hl : k < (packL gFig t).length := by rw [packL_length]; omega
  rw [List.take_succ_eq_append_getElem hl, packL_get]
  congr 2
  have ea : t.getD (2 * k) 0 = a := by simp [List.getD, ha]
  have eb : t.getD (2 * k + 1) 0 = b := by simp [List.getD, hb]
  unfold allFig at hf
  rw [List.all_eq_true] at hf
  have fa := (isFig_iff _).1 (hf a (List.mem_of_getElem? ha))
  have fb := (isFig_iff _).1 (hf b (List.mem_of_getElem? hb))
  unfold pkAt hvF
  rw [h2, if_neg (by omega), if_neg (by omega), Nat.sub_zero, Nat.sub_zero, ea, eb]
  unfold gFig
  rw [if_pos fa, if_pos fb]
  rfl

set_option maxRecDepth 100000 in
set_option maxHeartbeats 1000000 in
theorem refBcd_any (s : ByteArray) (W : World) (hs : s.size ≤ 1000000) :
    Calls Tryd.prog 44 #[.string s] W fun e W' => Ans W' e (bcdL s.data.toList) (bcdL s.data.toList).length (.int .i64 (bcdE s.data.toList)) ∧ Below W.heap.size W W' := by
  have hF := Lib.hid (fun W => figures_any s W hs)
  cases hfig : allFig s.data.toList with
  | false =>
    have e1 : bcdL s.data.toList = [] ∧ bcdE s.data.toList = 2 := by unfold bcdL bcdE; rw [hfig]; exact ⟨rfl, rfl⟩
    rw [e1.1, e1.2]
    rw [hfig] at hF
    clear hfig e1
    go_enter Tryd.func44, Tryd.ntmps44
    go_wp2_with fail
    refine (hF.out _).mono ?_
    rintro e W1 ⟨rfl, rfl⟩
    go_wp2
    go_ret2
    exact ⟨⟨none, 0, rfl, Nat.le_refl _, by omega, Rd.nil⟩, Below.refl _ _⟩
  | true =>
    rw [hfig] at hF
    obtain ⟨T, hT, hT2, hTL, hTf, hTs⟩ : ∃ T : ByteArray, T = (if s.size % 2 = 1 then ⟨#[48]⟩ ++ s else s) ∧ T.size % 2 = 0 ∧ packL gFig T.data.toList = bcdL s.data.toList ∧ allFig T.data.toList = true ∧ T.size ≤ 1000001 := by
      have e1 : bcdL s.data.toList = packL gFig s.data.toList := by unfold bcdL; rw [if_pos hfig]
      rw [e1]
      rcases Nat.mod_two_eq_zero_or_one s.size with h0 | h0
      · exact ⟨s, by rw [if_neg (by omega)], h0, rfl, hfig, by omega⟩
      · refine ⟨⟨#[48]⟩ ++ s, by rw [if_pos h0], ?_, ?_, ?_, ?_⟩
        · rw [ByteArray.size_append]; show (1 + s.size) % 2 = 0; omega
        · rw [show ((⟨#[48]⟩ : ByteArray) ++ s).data.toList = 48 :: s.data.toList by simp]
          exact packL_odd _ (by rw [bytes_len]; exact h0)
        · rw [show ((⟨#[48]⟩ : ByteArray) ++ s).data.toList = 48 :: s.data.toList by simp]
          unfold allFig at hfig ⊢
          rw [List.all_cons, hfig]
          rfl
        · rw [ByteArray.size_append]; show 1 + s.size ≤ 1000001; omega
    have hE : bcdE s.data.toList = 0 := by unfold bcdE; rw [if_pos hfig]
    rw [hE, ← hTL]
    clear hE hTL hfig
    have HTF := Lib.hid hTf
    have HT2 := Lib.hid hT2
    have HTn := Lib.hid (bytes_len T)
    clear hTf hT2
    rcases Nat.mod_two_eq_zero_or_one s.size with h0 | h0
    all_goals
      first | rw [if_neg (by omega)] at hT | rw [if_pos h0] at hT
      have hI : ((s.size : Int) % 2 == 1) = true ∨ ((s.size : Int) % 2 == 1) = false := by cases ((s.size : Int) % 2 == 1) <;> simp
      have hI2 : (s.size : Int) % 2 = ((s.size % 2 : Nat) : Int) := by omega
      rw [h0] at hI2
      have HT := Lib.hid hT
      clear hI h0 hT
      go_enter Tryd.func44, Tryd.ntmps44
      go_wp2_with fail
      refine (hF.out _).mono ?_
      rintro e W1 ⟨rfl, rfl⟩
      go_wp2
      first | rw [← HT.out] | skip
      clear HT hI2 hF
      go_loopw [4, 5] (fun v i wr => ∃ k m : Nat, m ≤ T.size ∧ i = .int .i64 (m : Int) ∧ Hid (m = 2 * k) ∧ Ow wr W.heap.size v ((packL gFig T.data.toList).take k) ∧ Below W.heap.size W wr) (fun _ i _ => T.size + 2 - (intOf i).toNat)
      case atStart => exact ⟨0, 0, by omega, rfl, Lib.hid rfl, Ow.nil, Below.refl _ _⟩
      case round =>
        obtain ⟨k, m, hk, rfl, hm, hown, hbel⟩ := hrel
        have HO := Lib.hid hown
        have HB := Lib.hid hbel
        clear hown hbel
        by_cases hlt : m < T.size
        · have hlt2 : m + 1 < T.size := by have := HT2.out; have := hm.out; omega
          have ga : T.data.toList[m]? = some T[m] := by rw [List.getElem?_eq_getElem (by rw [HTn.out]; exact hlt)]; rfl
          have gb : T.data.toList[m + 1]? = some T[m + 1] := by rw [List.getElem?_eq_getElem (by rw [HTn.out]; exact hlt2)]; rfl
          have HN := Lib.hid (pair_next T.data.toList k (by rw [HTn.out]; exact HT2.out) (by rw [HTn.out, ← hm.out]; exact hlt2) T[m] T[m + 1] (by rw [← hm.out]; exact ga) (by rw [← hm.out]; exact gb) HTF.out)
          have hall := HTF.out
          unfold allFig at hall
          rw [List.all_eq_true] at hall
          have fa := (isFig_iff _).1 (hall _ (List.mem_of_getElem? ga))
          have fb := (isFig_iff _).1 (hall _ (List.mem_of_getElem? gb))
          have a1 : (48 : Int) ≤ T[m].toNat := by omega
          have a2 : (T[m].toNat : Int) ≤ 57 := by omega
          have b1 : (48 : Int) ≤ T[m + 1].toNat := by omega
          have b2 : (T[m + 1].toNat : Int) ≤ 57 := by omega
          have hsz := HB.out.size
          have hlk : ((packL gFig T.data.toList).take k).length ≤ 1000001 := by have := hm.out; rw [List.length_take]; omega
          have hX : (16 * ((T[m].toNat : Int) - 48) + (T[m + 1].toNat : Int) - 48).toNat = 16 * (T[m].toNat - 48) + (T[m + 1].toNat - 48) := by omega
          rw [← hX] at HN
          clear hX ga gb hall fa fb
          have i1 : (m : Int) < (T.size : Int) := by omega
          have i2 : (m : Int) + 1 < (T.size : Int) := by omega
          have i3 : IntKind.i64.wrap ((m : Int) + 1) = (m : Int) + 1 := IntWalk.i64_in _ (by omega)
          have i4 : ((m : Int) + 1).toNat = m + 1 := by omega
          have i5 : 0 ≤ (m : Int) + 1 := by omega
          have x1 : IntKind.u8.wrap ((T[m].toNat : Int) - 48) = (T[m].toNat : Int) - 48 := by rw [IntKind.wrap_u8]; omega
          have x2 : IntKind.u8.wrap (16 * ((T[m].toNat : Int) - 48)) = 16 * ((T[m].toNat : Int) - 48) := by rw [IntKind.wrap_u8]; omega
          have x3 : IntKind.u8.wrap (16 * ((T[m].toNat : Int) - 48) + (T[m + 1].toNat : Int)) = 16 * ((T[m].toNat : Int) - 48) + (T[m + 1].toNat : Int) := by rw [IntKind.wrap_u8]; omega
          have x4 : IntKind.u8.wrap (16 * ((T[m].toNat : Int) - 48) + (T[m + 1].toNat : Int) - 48) = 16 * ((T[m].toNat : Int) - 48) + (T[m + 1].toNat : Int) - 48 := by rw [IntKind.wrap_u8]; omega
          go_wp2
          go_region_law (refine step_app rfl _ (.tmp 21) (.tmp 33) rfl W.heap.size _ _ [UInt8.ofNat (16 * ((T[m].toNat : Int) - 48) + (T[m + 1].toNat : Int) - 48).toNat] rfl (by exact HO.out.alloc _) ⟨_, 0, none⟩ 1 _ rfl rfl (by exact news1 _ _ (by omega) (by omega)) (by simp only [List.length_cons, List.length_nil]; omega) (by exact le_alloc hsz _) ?_; intro v2 w2 hown2 hgrow2)
          all_goals
            have HB2 := Lib.hid (Ow.below (w0 := W) (by exact HO.out.alloc _) (by exact HB.out.drew.alloc hsz _) hgrow2 (by exact le_alloc hsz _))
            rw [HN.out] at hown2
            have HW2 := Lib.hid hown2
            clear hgrow2 hown2
            try clear x4
            try clear x3
            try clear x2
            try clear x1
            try clear i4
            try clear i3
            go_wp2
            go_roundw
            case rel => exact ⟨k + 1, m + 2, by omega, by go_num, Lib.hid (by have := hm.out; omega), HW2.out, HB2.out⟩
            case measure => simp [intOf]; omega
        · have hS : Sl wr _ _ := HO.out.sl
          rw [List.take_of_length_le (by rw [packL_length, HTn.out]; have := hm.out; omega)] at hS
          have HS := Lib.hid hS
          clear hS
          go_wp2
          go_ret2
          exact ⟨Ans.of _ ⟨_, rfl, HS.out⟩ rfl, HB.out⟩
end Go.Proofs.YtpfjecjfooefoaaDoor
