
/- DigBack's walk -/
import Derived.Test.YtfppcmhhbheaiaaDoorJ07
namespace Go.Proofs.YtfppcmhhbheaiaaDoor
open Go.RowKit

set_option maxRecDepth 100000 in
theorem takeBig_sl (v : Value) (l : List UInt8) (at_ n : Int) (t : Int × Int × Int) (ht : tgS l at_ n = t) (W : World) (hl : l.length ≤ 1000000) (h : Sl W v l) :
    Calls Tryd.prog 27 #[v, .int .i64 at_, .int .i64 n] W fun e W' => e = .returned (.tuple #[.int .i64 t.1, .int .i64 t.2.1, .int .i64 t.2.2]) ∧ W = W' := by
  obtain ⟨A, c, rfl, hc, _, hr⟩ := h
  subst ht
  exact takeBig_all A l c at_ n W hl hc hr
set_option maxRecDepth 100000 in
theorem digOk_of {n w : Int} (h : digE n w = 0) : ∃ a k : Nat, n = a ∧ w = k ∧ 1 ≤ k ∧ k ≤ 18 ∧ a < 10 ^ k ∧ digL n w = dgL 48 10 a k := by
  have h1 := ok_of_digE h
  have h2 := (digOk_iff n w).1 h1
  obtain ⟨a, rfl⟩ := Int.eq_ofNat_of_zero_le h2.2.2.1
  obtain ⟨k, rfl⟩ := Int.eq_ofNat_of_zero_le (show 0 ≤ w by omega)
  refine ⟨a, k, rfl, rfl, by omega, by omega, h2.2.2.2, ?_⟩
  unfold digL
  rw [if_pos h1]
  rfl
set_option maxRecDepth 100000 in
theorem bigOk_of {n w : Int} (h : bigE n w = 0) : ∃ a k : Nat, n = a ∧ w = k ∧ 1 ≤ k ∧ k ≤ 8 ∧ a < 256 ^ k ∧ bigL n w = dgL 0 256 a k := by
  have h1 := ok_of_bigE h
  have h2 := (bigOk_iff n w).1 h1
  obtain ⟨a, rfl⟩ := Int.eq_ofNat_of_zero_le h2.2.2.1
  obtain ⟨k, rfl⟩ := Int.eq_ofNat_of_zero_le (show 0 ≤ w by omega)
  refine ⟨a, k, rfl, rfl, by omega, by omega, h2.2.2.2, ?_⟩
  unfold bigL
  rw [if_pos h1]
  rfl
set_option maxRecDepth 100000 in
theorem valR_digL {n w : Int} (h : digE n w = 0) : (((valR (digL n w)).1 : Nat) : Int) = n ∧ (valR (digL n w)).2 = 0 := by
  obtain ⟨a, k, rfl, rfl, h1, h2, h3, h4⟩ := digOk_of h
  rw [h4, valR_ok _ (by rw [dgL_length]; exact h1) (by rw [dgL_length]; exact h2) (dgL_fig a k), val_dgL, Nat.mod_eq_of_lt h3]
  exact ⟨rfl, rfl⟩
set_option maxRecDepth 100000 in
theorem tbS_back {n w : Int} (more : List UInt8) (h : digE n w = 0) : tbS (packL gFig (digL n w) ++ more) 0 w = (digL n w, (w + 1) / 2, 0) := by
  obtain ⟨a, k, rfl, rfl, h1, h2, h3, h4⟩ := digOk_of h
  rw [h4]
  have hlen : (packL gFig (dgL 48 10 a k)).length = (k + 1) / 2 := by rw [packL_length, dgL_length]
  have hhx := hx_packL gFig gFig_w gFig_u (dgL 48 10 a k) (by rw [okL_fig]; exact dgL_fig a k)
  rw [dgL_length] at hhx
  have hfig := dgL_fig a k
  unfold tbS
  rw [if_neg (by omega), List.length_append, hlen, if_neg (by simp only [Int.toNat_natCast]; omega)]
  simp only [Int.toNat_natCast, Int.toNat_zero, List.drop_zero]
  rw [List.take_left' hlen, hhx]
  have hok : tbOk (packL gFig (dgL 48 10 a k)) k = true := by
    unfold tbOk
    rw [hhx]
    unfold allFig at hfig ⊢
    rw [List.all_append, hfig]
    rcases Nat.mod_two_eq_zero_or_one k with e | e
    · rw [e]; simp
    · rw [e]; simp; decide
  rw [if_pos hok]
  rcases Nat.mod_two_eq_zero_or_one k with e | e
  · rw [e]; simp
  · rw [e]; simp
set_option maxRecDepth 100000 in
theorem tgS_back {n w : Int} (more : List UInt8) (h : bigE n w = 0) (hn : n ≤ 9223372036854775807) : tgS (bigL n w ++ more) 0 w = (n, w, 0) := by
  obtain ⟨a, k, rfl, rfl, h1, h2, h3, h4⟩ := bigOk_of h
  rw [h4]
  have hlen : (dgL 0 256 a k).length = k := dgL_length _ _ _ _
  unfold tgS
  rw [if_neg (by omega), List.length_append, hlen, if_neg (by simp only [Int.toNat_natCast]; omega)]
  simp only [Int.toNat_natCast, Int.toNat_zero, List.drop_zero]
  rw [List.take_left' hlen, numL_dgL, Nat.mod_eq_of_lt h3, if_pos (by omega)]
  simp
set_option maxRecDepth 100000 in
theorem unhex_hx (l : List UInt8) : unhexL (hx l) = l ∧ unhexE (hx l) = 0 := by
  have hok : unhexOk (hx l) = true := by
    unfold unhexOk
    rw [hx_length, show 2 * l.length % 2 = 0 by omega]
    have : okL gHalf (hx l) = true := by
      unfold okL
      rw [List.all_eq_true]
      intro c hc
      obtain ⟨i, hi, rfl⟩ := List.getElem_of_mem hc
      rw [hx_get, gHalf_sgn _ (nib_lt l i)]
      rfl
    rw [this]
    rfl
  unfold unhexL unhexE
  rw [if_pos hok, if_pos hok, packL_hx gHalf gHalf_w l (fun i _ => gHalf_sgn _ (nib_lt l i))]
  exact ⟨rfl, rfl⟩

end Go.Proofs.YtfppcmhhbheaiaaDoor
