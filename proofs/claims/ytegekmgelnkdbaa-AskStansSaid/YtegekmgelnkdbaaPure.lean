
/- Lists of figures and bytes: plain facts. -/
import Derived.Test.YtegekmgelnkdbaaTakeB
namespace Go.Proofs.Ytegekmgelnkdbaa
open Go.RowKit

set_option maxRecDepth 100000 in
theorem dgL_succ (z b n w : Nat) : dgL z b n (w + 1) = UInt8.ofNat (z + n / b ^ w % b) :: dgL z b n w := by
  unfold dgL
  rw [List.range_succ_eq_map, List.map_cons, List.map_map]
  congr 1
  apply List.map_congr_left
  intro p _
  simp only [Function.comp, dgAt]
  rw [show w + 1 - 1 - (p + 1) = w - 1 - p by omega]
set_option maxRecDepth 100000 in
theorem dgL_mod (z b n w : Nat) : dgL z b (n % b ^ w) w = dgL z b n w := by
  unfold dgL
  apply List.map_congr_left
  intro p hp
  have hp := List.mem_range.1 hp
  unfold dgAt
  congr 2
  have e : b ^ w = b ^ (w - 1 - p) * (b * b ^ p) := by
    rw [← Nat.mul_assoc, ← Nat.pow_succ, ← Nat.pow_add]
    congr 1
    omega
  rw [e, Nat.mod_mul_right_div_self, Nat.mod_mul_right_mod]
set_option maxRecDepth 100000 in
theorem dgL_snoc (z b n w : Nat) : dgL z b n (w + 1) = dgL z b (n / b) w ++ [UInt8.ofNat (z + n % b)] := by
  unfold dgL
  rw [List.range_succ, List.map_append]
  congr 1
  · apply List.map_congr_left
    intro p hp
    have hp := List.mem_range.1 hp
    unfold dgAt
    rw [Nat.div_div_eq_div_mul, show w + 1 - 1 - p = (w - 1 - p) + 1 by omega, Nat.pow_succ, Nat.mul_comm b]
  · simp [dgAt]

set_option maxRecDepth 100000 in
theorem ofNat_mod {z b x : Nat} (hb : 0 < b) (hz : z + b ≤ 256) : (UInt8.ofNat (z + x % b)).toNat = z + x % b := by
  have := Nat.mod_lt x hb
  rw [UInt8.toNat_ofNat']
  exact Nat.mod_eq_of_lt (by omega)
set_option maxRecDepth 100000 in
theorem byte_lt {z b x y : Nat} (hb : 0 < b) (hz : z + b ≤ 256) : (UInt8.ofNat (z + x % b) < UInt8.ofNat (z + y % b)) ↔ x % b < y % b := by
  rw [UInt8.lt_iff_toNat_lt, ofNat_mod hb hz, ofNat_mod hb hz]
  omega
set_option maxRecDepth 100000 in
theorem byte_eq {z b x y : Nat} (hb : 0 < b) (hz : z + b ≤ 256) : (UInt8.ofNat (z + x % b) = UInt8.ofNat (z + y % b)) ↔ x % b = y % b := by
  rw [← UInt8.toNat_inj, ofNat_mod hb hz, ofNat_mod hb hz]
  omega

set_option maxRecDepth 100000 in
theorem dgL_less (z b : Nat) (hb : 0 < b) (hz : z + b ≤ 256) (w : Nat) : ∀ m n, Op.bytesLess (dgL z b m w) (dgL z b n w) = decide (m % b ^ w < n % b ^ w) := by
  induction w with
  | zero => intro m n; simp [dgL, Op.bytesLess, Nat.mod_one]
  | succ w ih =>
    intro m n
    rw [dgL_succ, dgL_succ, Op.bytesLess, ih, Bool.eq_iff_iff]
    simp only [Bool.or_eq_true, Bool.and_eq_true, decide_eq_true_eq, beq_iff_eq, byte_lt hb hz, byte_eq hb hz]
    have hp : 0 < b ^ w := Nat.pow_pos hb
    have e : ∀ x, x % b ^ (w + 1) = b ^ w * (x / b ^ w % b) + x % b ^ w := by
      intro x
      rw [Nat.pow_succ, Nat.mod_mul]
      omega
    rw [e m, e n]
    have hm := Nat.mod_lt m hp
    have hn := Nat.mod_lt n hp
    generalize m / b ^ w % b = x
    generalize n / b ^ w % b = y
    generalize m % b ^ w = r at *
    generalize n % b ^ w = t at *
    generalize b ^ w = B at *
    constructor
    · rintro (h | ⟨h, h2⟩)
      · have : B * (x + 1) ≤ B * y := Nat.mul_le_mul_left _ h
        rw [Nat.mul_add] at this
        omega
      · subst h; omega
    · intro h
      rcases Nat.lt_trichotomy x y with h1 | h1 | h1
      · exact .inl h1
      · subst h1; exact .inr ⟨rfl, by omega⟩
      · have : B * (y + 1) ≤ B * x := Nat.mul_le_mul_left _ h1
        rw [Nat.mul_add] at this
        omega
set_option maxRecDepth 100000 in
theorem dgL_inj (z b : Nat) (hb : 0 < b) (hz : z + b ≤ 256) (w : Nat) : ∀ m n, dgL z b m w = dgL z b n w ↔ m % b ^ w = n % b ^ w := by
  induction w with
  | zero => intro m n; simp [dgL, Nat.mod_one]
  | succ w ih =>
    intro m n
    rw [dgL_succ, dgL_succ, List.cons.injEq, ih, byte_eq hb hz]
    have hp : 0 < b ^ w := Nat.pow_pos hb
    have e : ∀ x, x % b ^ (w + 1) = b ^ w * (x / b ^ w % b) + x % b ^ w := by
      intro x
      rw [Nat.pow_succ, Nat.mod_mul]
      omega
    rw [e m, e n]
    have hm := Nat.mod_lt m hp
    have hn := Nat.mod_lt n hp
    generalize m / b ^ w % b = x
    generalize n / b ^ w % b = y
    generalize m % b ^ w = r at *
    generalize n % b ^ w = t at *
    generalize b ^ w = B at *
    constructor
    · rintro ⟨rfl, rfl⟩; rfl
    · intro h
      rcases Nat.lt_trichotomy x y with h1 | h1 | h1
      · have : B * (x + 1) ≤ B * y := Nat.mul_le_mul_left _ h1
        rw [Nat.mul_add] at this
        omega
      · subst h1; exact ⟨rfl, by omega⟩
      · have : B * (y + 1) ≤ B * x := Nat.mul_le_mul_left _ h1
        rw [Nat.mul_add] at this
        omega

/-! there and back -/
set_option maxRecDepth 100000 in
theorem val_dgL (n w : Nat) : val (dgL 48 10 n w) = n % 10 ^ w := by
  induction w generalizing n with
  | zero => simp [dgL, val, Nat.mod_one]
  | succ w ih =>
    rw [dgL_snoc, val_snoc, ih, ofNat_mod (by omega) (by omega), Nat.pow_succ, Nat.mul_comm _ 10, Nat.mod_mul]
    omega
set_option maxRecDepth 100000 in
theorem numL_dgL (n w : Nat) : numL (dgL 0 256 n w) = n % 256 ^ w := by
  induction w generalizing n with
  | zero => simp [dgL, numL, Nat.mod_one]
  | succ w ih =>
    rw [dgL_snoc, numL_snoc, ih, ofNat_mod (by omega) (by omega), Nat.pow_succ, Nat.mul_comm _ 256, Nat.mod_mul]
    omega
set_option maxRecDepth 100000 in
theorem dgL_fig (n w : Nat) : allFig (dgL 48 10 n w) = true := by
  unfold allFig
  rw [List.all_eq_true]
  intro c hc
  obtain ⟨j, hj, rfl⟩ := List.getElem_of_mem hc
  rw [dgL_get, isFig_iff, dgAt_nat 48 10 n w j (by omega) (by omega)]
  omega
set_option maxRecDepth 100000 in
theorem dgL_val (l : List UInt8) (h : allFig l = true) : dgL 48 10 (val l) l.length = l := by
  induction l using snoc_ind with
  | h0 => rfl
  | h1 l a ih =>
    rw [all_snoc, Bool.and_eq_true] at h
    have h2 := (isFig_iff a).1 h.2
    rw [List.length_append, List.length_cons, List.length_nil, dgL_snoc, val_snoc, show (10 * val l + (a.toNat - 48)) / 10 = val l by omega, ih h.1]
    congr 2
    apply UInt8.toNat_inj.1
    rw [UInt8.toNat_ofNat']
    omega
set_option maxRecDepth 100000 in
theorem dgL_num (l : List UInt8) : dgL 0 256 (numL l) l.length = l := by
  induction l using snoc_ind with
  | h0 => rfl
  | h1 l a ih =>
    have := a.toNat_lt
    rw [List.length_append, List.length_cons, List.length_nil, dgL_snoc, numL_snoc, show (256 * numL l + a.toNat) / 256 = numL l by omega, ih]
    congr 2
    apply UInt8.toNat_inj.1
    rw [UInt8.toNat_ofNat']
    omega

/-! halves of bytes -/
def nib (l : List UInt8) (i : Nat) : Nat := if i % 2 = 0 then (l.getD (i / 2) 0).toNat / 16 else (l.getD (i / 2) 0).toNat % 16
set_option maxRecDepth 100000 in
theorem nib_lt (l : List UInt8) (i : Nat) : nib l i < 16 := by
  unfold nib
  have := (l.getD (i / 2) 0).toNat_lt
  split <;> omega
set_option maxRecDepth 100000 in
theorem hx_get (l : List UInt8) : ∀ (i : Nat) (h : i < (hx l).length), (hx l)[i] = sgn (nib l i) := by
  induction l with
  | nil => intro i h; simp [hx] at h
  | cons a l ih =>
    intro i h
    match i, h with
    | 0, h => rfl
    | 1, h => rfl
    | i + 2, h =>
      have e : hx (a :: l) = [sgn (a.toNat / 16), sgn (a.toNat % 16)] ++ hx l := by simp [hx]
      have hl : i < (hx l).length := by rw [hx_length] at h ⊢; simp only [List.length_cons] at h; omega
      have h2 : (hx (a :: l))[i + 2] = (hx l)[i] := by simp [e]
      rw [h2, ih i hl]
      unfold nib
      rw [show (i + 2) % 2 = i % 2 by omega, show (i + 2) / 2 = i / 2 + 1 by omega, List.getD_cons_succ]
set_option maxRecDepth 100000 in
/-- two rows whose halves are the same are the same -/
theorem nib_ext (a b : List UInt8) (hl : a.length = b.length) (h : ∀ i, i < 2 * a.length → nib a i = nib b i) : a = b := by
  apply List.ext_getElem hl
  intro i h1 h2
  have e1 := h (2 * i) (by omega)
  have e2 := h (2 * i + 1) (by omega)
  unfold nib at e1 e2
  rw [if_pos (by omega), if_pos (by omega), show 2 * i / 2 = i by omega, getD_at a i h1, getD_at b i h2] at e1
  rw [if_neg (by omega), if_neg (by omega), show (2 * i + 1) / 2 = i by omega, getD_at a i h1, getD_at b i h2] at e2
  apply UInt8.toNat_inj.1
  omega
set_option maxRecDepth 100000 in
theorem nib_packL (g : UInt8 → Option Nat) (hg : Worth g) (l : List UInt8) (i : Nat) (h : i < 2 * ((l.length + 1) / 2)) : nib (packL g l) i = hvF g l i := by
  have hlt := hvF_lt g hg l
  unfold nib
  rw [getD_at _ _ (by rw [packL_length]; omega), packL_get, pkAt_nat _ hlt]
  have a := hlt (2 * (i / 2))
  have b := hlt (2 * (i / 2) + 1)
  split
  · rw [show (16 * hvF g l (2 * (i / 2)) + hvF g l (2 * (i / 2) + 1)) / 16 = hvF g l (2 * (i / 2)) by omega, show 2 * (i / 2) = i by omega]
  · rw [show (16 * hvF g l (2 * (i / 2)) + hvF g l (2 * (i / 2) + 1)) % 16 = hvF g l (2 * (i / 2) + 1) by omega, show 2 * (i / 2) + 1 = i by omega]
/-- g undoes sgn -/
def Undoes (g : UInt8 → Option Nat) : Prop := ∀ c v, g c = some v → sgn v = c
set_option maxRecDepth 100000 in
theorem gFig_u : Undoes gFig := by
  intro c v h
  unfold gFig at h
  split at h <;> simp at h
  subst h
  unfold sgn
  rw [if_pos (by omega)]
  apply UInt8.toNat_inj.1
  have := c.toNat_lt
  rw [UInt8.toNat_ofNat']
  omega
set_option maxRecDepth 100000 in
theorem gHalf_u : Undoes gHalf := by
  intro c v h
  unfold gHalf at h
  split at h
  · simp at h
    subst h
    unfold sgn
    rw [if_neg (by omega)]
    apply UInt8.toNat_inj.1
    rw [UInt8.toNat_ofNat']
    omega
  · exact gFig_u c v h
set_option maxRecDepth 100000 in
theorem sgn_nat (v : Nat) (h : v < 16) : (sgn v).toNat = if v < 10 then 48 + v else 87 + v := by
  unfold sgn
  split <;> rw [UInt8.toNat_ofNat'] <;> omega
set_option maxRecDepth 100000 in
theorem gHalf_sgn (v : Nat) (h : v < 16) : gHalf (sgn v) = some v := by
  have e := sgn_nat v h
  unfold gHalf gFig
  by_cases h10 : v < 10
  · rw [if_pos h10] at e
    rw [e, if_neg (by omega), if_pos (by omega)]; congr 1; omega
  · rw [if_neg h10] at e
    rw [e, if_pos (by omega)]; congr 1; omega
set_option maxRecDepth 100000 in
theorem gFig_sgn (v : Nat) (h : v < 10) : gFig (sgn v) = some v := by
  have e := sgn_nat v (by omega)
  rw [if_pos h] at e
  unfold gFig
  rw [e, if_pos (by omega)]
  congr 1; omega
set_option maxRecDepth 100000 in
theorem okL_fig (l : List UInt8) : okL gFig l = allFig l := by
  unfold okL allFig
  congr 1
  funext c
  unfold gFig isFig
  split
  · simp; omega
  · rename_i h
    rw [Bool.eq_iff_iff]
    simp
    omega
set_option maxRecDepth 100000 in
theorem okL_at (g : UInt8 → Option Nat) (l : List UInt8) (h : okL g l = true) (k : Nat) (hk : k < l.length) : ∃ v, g l[k] = some v := by
  unfold okL at h
  rw [List.all_eq_true] at h
  exact Option.isSome_iff_exists.1 (h _ (List.getElem_mem hk))

set_option maxRecDepth 100000 in
/-- Hex behind packing: the signs, a nought ahead of an odd count -/
theorem hx_packL (g : UInt8 → Option Nat) (hg : Worth g) (hu : Undoes g) (l : List UInt8) (h : okL g l = true) : hx (packL g l) = (if l.length % 2 = 1 then [48] else []) ++ l := by
  have hlen : (hx (packL g l)).length = ((if l.length % 2 = 1 then [48] else []) ++ l).length := by
    rw [hx_length, packL_length, List.length_append]
    split <;> simp <;> omega
  apply List.ext_getElem hlen
  intro i h1 h2
  rw [hx_get, nib_packL g hg l i (by rw [hx_length, packL_length] at h1; exact h1)]
  unfold hvF
  rcases Nat.mod_two_eq_zero_or_one l.length with h0 | h0
  · simp only [h0] at h2 ⊢
    simp at h2
    obtain ⟨v, hv⟩ := okL_at g l h i h2
    rw [if_neg (by omega), Nat.sub_zero, getD_at l i h2, hv]
    simp [hu _ _ hv]
  · simp only [h0] at h2 ⊢
    simp at h2
    match i, h2 with
    | 0, _ => rfl
    | i + 1, h2 =>
      have hi : i < l.length := by omega
      obtain ⟨v, hv⟩ := okL_at g l h i hi
      rw [if_neg (by omega), Nat.add_sub_cancel, getD_at l i hi, hv]
      simp [hu _ _ hv]
set_option maxRecDepth 100000 in
/-- packing behind Hex -/
theorem packL_hx (g : UInt8 → Option Nat) (hg : Worth g) (l : List UInt8) (h : ∀ i, i < 2 * l.length → g (sgn (nib l i)) = some (nib l i)) : packL g (hx l) = l := by
  have hlen : (packL g (hx l)).length = l.length := by rw [packL_length, hx_length]; omega
  apply nib_ext _ _ hlen
  intro i hi
  rw [hlen] at hi
  rw [nib_packL g hg _ i (by rw [hx_length]; omega)]
  unfold hvF
  rw [hx_length, show 2 * l.length % 2 = 0 by omega, if_neg (by omega), Nat.sub_zero, getD_at _ _ (by rw [hx_length]; exact hi), hx_get, h i hi]
  rfl
set_option maxRecDepth 100000 in
/-- packing an odd count: as with a nought ahead -/
theorem packL_odd (l : List UInt8) (h : l.length % 2 = 1) : packL gFig (48 :: l) = packL gFig l := by
  have hlen : (packL gFig (48 :: l)).length = (packL gFig l).length := by rw [packL_length, packL_length, List.length_cons]; omega
  apply nib_ext _ _ hlen
  intro i hi
  rw [packL_length, List.length_cons] at hi
  rw [nib_packL _ gFig_w _ i (by rw [List.length_cons]; omega), nib_packL _ gFig_w _ i (by omega)]
  unfold hvF
  rw [List.length_cons, show (l.length + 1) % 2 = 0 by omega, h]
  match i with
  | 0 => rfl
  | i + 1 => rw [if_neg (by omega), if_neg (by omega), Nat.sub_zero, List.getD_cons_succ, Nat.add_sub_cancel]
set_option maxRecDepth 100000 in
theorem packL_append (s t : List UInt8) (hs : s.length % 2 = 0) (ht : t.length % 2 = 0) : packL gFig (s ++ t) = packL gFig s ++ packL gFig t := by
  have hlen : (packL gFig (s ++ t)).length = (packL gFig s ++ packL gFig t).length := by rw [List.length_append, packL_length, packL_length, packL_length, List.length_append]; omega
  apply List.ext_getElem hlen
  intro i h1 h2
  rw [packL_get]
  rw [packL_length, List.length_append] at h1
  by_cases hi : i < s.length / 2
  · rw [List.getElem_append_left (by rw [packL_length]; omega), packL_get]
    unfold pkAt hvF
    rw [List.length_append, show (s.length + t.length) % 2 = 0 by omega, hs, if_neg (by omega), if_neg (by omega), if_neg (by omega), if_neg (by omega)]
    simp only [Nat.sub_zero]
    rw [getD_at _ _ (by rw [List.length_append]; omega), getD_at _ _ (by rw [List.length_append]; omega), getD_at _ _ (by omega), getD_at _ _ (by omega), List.getElem_append_left (by omega), List.getElem_append_left (by omega)]
  · have e : (packL gFig s).length = s.length / 2 := by rw [packL_length]; omega
    rw [List.getElem_append_right (by omega), packL_get]
    unfold pkAt hvF
    rw [e, List.length_append, show (s.length + t.length) % 2 = 0 by omega, ht, if_neg (by omega), if_neg (by omega), if_neg (by omega), if_neg (by omega)]
    simp only [Nat.sub_zero]
    rw [getD_at _ _ (by rw [List.length_append]; omega), getD_at _ _ (by rw [List.length_append]; omega), getD_at _ _ (by omega), getD_at _ _ (by omega), List.getElem_append_right (by omega), List.getElem_append_right (by omega)]
    congr 4 <;> congr 3 <;> omega
set_option maxRecDepth 100000 in
theorem packL_seven (s : List UInt8) (hs : s.length % 2 = 0) : packL gFig (55 :: s) = 7 :: packL gFig s := by
  have hlen : (packL gFig (55 :: s)).length = (7 :: packL gFig s).length := by rw [List.length_cons, packL_length, packL_length, List.length_cons]; omega
  apply List.ext_getElem hlen
  intro i h1 h2
  rw [packL_get]
  match i, h1, h2 with
  | 0, _, _ =>
    unfold pkAt hvF
    rw [List.length_cons, show (s.length + 1) % 2 = 1 by omega]
    rfl
  | i + 1, h1, h2 =>
    rw [packL_length, List.length_cons] at h1
    rw [List.getElem_cons_succ, packL_get]
    unfold pkAt hvF
    rw [List.length_cons, show (s.length + 1) % 2 = 1 by omega, hs, if_neg (by omega), if_neg (by omega), if_neg (by omega), if_neg (by omega)]
    rw [show 2 * (i + 1) - 1 = 2 * i + 1 by omega, show 2 * (i + 1) + 1 - 1 = (2 * i + 1) + 1 by omega, List.getD_cons_succ, List.getD_cons_succ]
    rfl
end Go.Proofs.Ytegekmgelnkdbaa
