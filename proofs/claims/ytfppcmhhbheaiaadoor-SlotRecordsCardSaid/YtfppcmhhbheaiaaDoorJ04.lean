
/- Lists of figures and bytes: plain facts. -/
import Derived.Test.YtfppcmhhbheaiaaDoorJ03
import Derived.Test.YtfppcmhhbheaiaaDoorJ01
import Derived.Laws.BitsAll
import Derived.Laws.ShiftsVar
namespace Go.Proofs.YtfppcmhhbheaiaaDoor
open Go.RowKit

set_option maxRecDepth 100000 in
theorem dgL_succ (z b n w : Nat) : dgL z b n (w + 1) = UInt8.ofNat (z + n / b ^ w % b) :: dgL z b n w := by
  unfold dgL
  rw [List.range_succ_eq_map, List.map_cons, List.map_map]
  congr 1
  apply List.map_congr_left
  intro p _
  simp only [Function.comp, dgAt]
  rw [show w + 1 - 1 - (p + 1) = w - 1 - p by omega]
set_option maxRecDepth 100000 in
theorem dgL_mod (z b n w : Nat) : dgL z b (n % b ^ w) w = dgL z b n w := by
  unfold dgL
  apply List.map_congr_left
  intro p hp
  have hp := List.mem_range.1 hp
  unfold dgAt
  congr 2
  have e : b ^ w = b ^ (w - 1 - p) * (b * b ^ p) := by
    rw [← Nat.mul_assoc, ← Nat.pow_succ, ← Nat.pow_add]
    congr 1
    omega
  rw [e, Nat.mod_mul_right_div_self, Nat.mod_mul_right_mod]
set_option maxRecDepth 100000 in
theorem dgL_snoc (z b n w : Nat) : dgL z b n (w + 1) = dgL z b (n / b) w ++ [UInt8.ofNat (z + n % b)] := by
  unfold dgL
  rw [List.range_succ, List.map_append]
  congr 1
  · apply List.map_congr_left
    intro p hp
    have hp := List.mem_range.1 hp
    unfold dgAt
    rw [Nat.div_div_eq_div_mul, show w + 1 - 1 - p = (w - 1 - p) + 1 by omega, Nat.pow_succ, Nat.mul_comm b]
  · simp [dgAt]

set_option maxRecDepth 100000 in
theorem ofNat_mod {z b x : Nat} (hb : 0 < b) (hz : z + b ≤ 256) : (UInt8.ofNat (z + x % b)).toNat = z + x % b := by
  have := Nat.mod_lt x hb
  rw [UInt8.toNat_ofNat']
  exact Nat.mod_eq_of_lt (by omega)
set_option maxRecDepth 100000 in
theorem byte_lt {z b x y : Nat} (hb : 0 < b) (hz : z + b ≤ 256) : (UInt8.ofNat (z + x % b) < UInt8.ofNat (z + y % b)) ↔ x % b < y % b := by
  rw [UInt8.lt_iff_toNat_lt, ofNat_mod hb hz, ofNat_mod hb hz]
  omega
set_option maxRecDepth 100000 in
theorem byte_eq {z b x y : Nat} (hb : 0 < b) (hz : z + b ≤ 256) : (UInt8.ofNat (z + x % b) = UInt8.ofNat (z + y % b)) ↔ x % b = y % b := by
  rw [← UInt8.toNat_inj, ofNat_mod hb hz, ofNat_mod hb hz]
  omega

set_option maxRecDepth 100000 in
theorem dgL_less (z b : Nat) (hb : 0 < b) (hz : z + b ≤ 256) (w : Nat) : ∀ m n, Op.bytesLess (dgL z b m w) (dgL z b n w) = decide (m % b ^ w < n % b ^ w) := by
  induction w with
  | zero => intro m n; simp [dgL, Op.bytesLess, Nat.mod_one]
  | succ w ih =>
    intro m n
    rw [dgL_succ, dgL_succ, Op.bytesLess, ih, Bool.eq_iff_iff]
    simp only [Bool.or_eq_true, Bool.and_eq_true, decide_eq_true_eq, beq_iff_eq, byte_lt hb hz, byte_eq hb hz]
    have hp : 0 < b ^ w := Nat.pow_pos hb
    have e : ∀ x, x % b ^ (w + 1) = b ^ w * (x / b ^ w % b) + x % b ^ w := by
      intro x
      rw [Nat.pow_succ, Nat.mod_mul]
      omega
    rw [e m, e n]
    have hm := Nat.mod_lt m hp
    have hn := Nat.mod_lt n hp
    generalize m / b ^ w % b = x
    generalize n / b ^ w % b = y
    generalize m % b ^ w = r at *
    generalize n % b ^ w = t at *
    generalize b ^ w = B at *
    constructor
    · rintro (h | ⟨h, h2⟩)
      · have : B * (x + 1) ≤ B * y := Nat.mul_le_mul_left _ h
        rw [Nat.mul_add] at this
        omega
      · subst h; omega
    · intro h
      rcases Nat.lt_trichotomy x y with h1 | h1 | h1
      · exact .inl h1
      · subst h1; exact .inr ⟨rfl, by omega⟩
      · have : B * (y + 1) ≤ B * x := Nat.mul_le_mul_left _ h1
        rw [Nat.mul_add] at this
        omega
set_option maxRecDepth 100000 in
theorem dgL_inj (z b : Nat) (hb : 0 < b) (hz : z + b ≤ 256) (w : Nat) : ∀ m n, dgL z b m w = dgL z b n w ↔ m % b ^ w = n % b ^ w := by
  induction w with
  | zero => intro m n; simp [dgL, Nat.mod_one]
  | succ w ih =>
    intro m n
    rw [dgL_succ, dgL_succ, List.cons.injEq, ih, byte_eq hb hz]
    have hp : 0 < b ^ w := Nat.pow_pos hb
    have e : ∀ x, x % b ^ (w + 1) = b ^ w * (x / b ^ w % b) + x % b ^ w := by
      intro x
      rw [Nat.pow_succ, Nat.mod_mul]
      omega
    rw [e m, e n]
    have hm := Nat.mod_lt m hp
    have hn := Nat.mod_lt n hp
    generalize m / b ^ w % b = x
    generalize n / b ^ w % b = y
    generalize m % b ^ w = r at *
    generalize n % b ^ w = t at *
    generalize b ^ w = B at *
    constructor
    · rintro ⟨rfl, rfl⟩; rfl
    · intro h
      rcases Nat.lt_trichotomy x y with h1 | h1 | h1
      · have : B * (x + 1) ≤ B * y := Nat.mul_le_mul_left _ h1
        rw [Nat.mul_add] at this
        omega
      · subst h1; exact ⟨rfl, by omega⟩
      · have : B * (y + 1) ≤ B * x := Nat.mul_le_mul_left _ h1
        rw [Nat.mul_add] at this
        omega

/-! there and back -/
set_option maxRecDepth 100000 in
theorem val_dgL (n w : Nat) : val (dgL 48 10 n w) = n % 10 ^ w := by
  induction w generalizing n with
  | zero => simp [dgL, val, Nat.mod_one]
  | succ w ih =>
    rw [dgL_snoc, val_snoc, ih, ofNat_mod (by omega) (by omega), Nat.pow_succ, Nat.mul_comm _ 10, Nat.mod_mul]
    omega
set_option maxRecDepth 100000 in
theorem numL_dgL (n w : Nat) : numL (dgL 0 256 n w) = n % 256 ^ w := by
  induction w generalizing n with
  | zero => simp [dgL, numL, Nat.mod_one]
  | succ w ih =>
    rw [dgL_snoc, numL_snoc, ih, ofNat_mod (by omega) (by omega), Nat.pow_succ, Nat.mul_comm _ 256, Nat.mod_mul]
    omega
set_option maxRecDepth 100000 in
theorem dgL_fig (n w : Nat) : allFig (dgL 48 10 n w) = true := by
  unfold allFig
  rw [List.all_eq_true]
  intro c hc
  obtain ⟨j, hj, rfl⟩ := List.getElem_of_mem hc
  rw [dgL_get, isFig_iff, dgAt_nat 48 10 n w j (by omega) (by omega)]
  omega
set_option maxRecDepth 100000 in
theorem dgL_val (l : List UInt8) (h : allFig l = true) : dgL 48 10 (val l) l.length = l := by
  induction l using snoc_ind with
  | h0 => rfl
  | h1 l a ih =>
    rw [all_snoc, Bool.and_eq_true] at h
    have h2 := (isFig_iff a).1 h.2
    rw [List.length_append, List.length_cons, List.length_nil, dgL_snoc, val_snoc, show (10 * val l + (a.toNat - 48)) / 10 = val l by omega, ih h.1]
    congr 2
    apply UInt8.toNat_inj.1
    rw [UInt8.toNat_ofNat']
    omega
set_option maxRecDepth 100000 in
theorem dgL_num (l : List UInt8) : dgL 0 256 (numL l) l.length = l := by
  induction l using snoc_ind with
  | h0 => rfl
  | h1 l a ih =>
    have := a.toNat_lt
    rw [List.length_append, List.length_cons, List.length_nil, dgL_snoc, numL_snoc, show (256 * numL l + a.toNat) / 256 = numL l by omega, ih]
    congr 2
    apply UInt8.toNat_inj.1
    rw [UInt8.toNat_ofNat']
    omega

/-! halves of bytes -/
def nib (l : List UInt8) (i : Nat) : Nat := if i % 2 = 0 then (l.getD (i / 2) 0).toNat / 16 else (l.getD (i / 2) 0).toNat % 16
set_option maxRecDepth 100000 in
theorem nib_lt (l : List UInt8) (i : Nat) : nib l i < 16 := by
  unfold nib
  have := (l.getD (i / 2) 0).toNat_lt
  split <;> omega
set_option maxRecDepth 100000 in
theorem hx_get (l : List UInt8) : ∀ (i : Nat) (h : i < (hx l).length), (hx l)[i] = sgn (nib l i) := by
  induction l with
  | nil => intro i h; simp [hx] at h
  | cons a l ih =>
    intro i h
    match i, h with
    | 0, h => rfl
    | 1, h => rfl
    | i + 2, h =>
      have e : hx (a :: l) = [sgn (a.toNat / 16), sgn (a.toNat % 16)] ++ hx l := by simp [hx]
      have hl : i < (hx l).length := by rw [hx_length] at h ⊢; simp only [List.length_cons] at h; omega
      have h2 : (hx (a :: l))[i + 2] = (hx l)[i] := by simp [e]
      rw [h2, ih i hl]
      unfold nib
      rw [show (i + 2) % 2 = i % 2 by omega, show (i + 2) / 2 = i / 2 + 1 by omega, List.getD_cons_succ]
set_option maxRecDepth 100000 in
/-- two rows whose halves are the same are the same -/
theorem nib_ext (a b : List UInt8) (hl : a.length = b.length) (h : ∀ i, i < 2 * a.length → nib a i = nib b i) : a = b := by
  apply List.ext_getElem hl
  intro i h1 h2
  have e1 := h (2 * i) (by omega)
  have e2 := h (2 * i + 1) (by omega)
  unfold nib at e1 e2
  rw [if_pos (by omega), if_pos (by omega), show 2 * i / 2 = i by omega, getD_at a i h1, getD_at b i h2] at e1
  rw [if_neg (by omega), if_neg (by omega), show (2 * i + 1) / 2 = i by omega, getD_at a i h1, getD_at b i h2] at e2
  apply UInt8.toNat_inj.1
  omega
set_option maxRecDepth 100000 in
theorem nib_packL (g : UInt8 → Option Nat) (hg : Worth g) (l : List UInt8) (i : Nat) (h : i < 2 * ((l.length + 1) / 2)) : nib (packL g l) i = hvF g l i := by
  have hlt := hvF_lt g hg l
  unfold nib
  rw [getD_at _ _ (by rw [packL_length]; omega), packL_get, pkAt_nat _ hlt]
  have a := hlt (2 * (i / 2))
  have b := hlt (2 * (i / 2) + 1)
  split
  · rw [show (16 * hvF g l (2 * (i / 2)) + hvF g l (2 * (i / 2) + 1)) / 16 = hvF g l (2 * (i / 2)) by omega, show 2 * (i / 2) = i by omega]
  · rw [show (16 * hvF g l (2 * (i / 2)) + hvF g l (2 * (i / 2) + 1)) % 16 = hvF g l (2 * (i / 2) + 1) by omega, show 2 * (i / 2) + 1 = i by omega]
/-- g undoes sgn -/
def Undoes (g : UInt8 → Option Nat) : Prop := ∀ c v, g c = some v → sgn v = c
set_option maxRecDepth 100000 in
theorem gFig_u : Undoes gFig := by
  intro c v h
  unfold gFig at h
  split at h <;> simp at h
  subst h
  unfold sgn
  rw [if_pos (by omega)]
  apply UInt8.toNat_inj.1
  have := c.toNat_lt
  rw [UInt8.toNat_ofNat']
  omega
set_option maxRecDepth 100000 in
theorem gHalf_u : Undoes gHalf := by
  intro c v h
  unfold gHalf at h
  split at h
  · simp at h
    subst h
    unfold sgn
    rw [if_neg (by omega)]
    apply UInt8.toNat_inj.1
    rw [UInt8.toNat_ofNat']
    omega
  · exact gFig_u c v h
set_option maxRecDepth 100000 in
theorem sgn_nat (v : Nat) (h : v < 16) : (sgn v).toNat = if v < 10 then 48 + v else 87 + v := by
  unfold sgn
  split <;> rw [UInt8.toNat_ofNat'] <;> omega
set_option maxRecDepth 100000 in
theorem gHalf_sgn (v : Nat) (h : v < 16) : gHalf (sgn v) = some v := by
  have e := sgn_nat v h
  unfold gHalf gFig
  by_cases h10 : v < 10
  · rw [if_pos h10] at e
    rw [e, if_neg (by omega), if_pos (by omega)]; congr 1; omega
  · rw [if_neg h10] at e
    rw [e, if_pos (by omega)]; congr 1; omega
set_option maxRecDepth 100000 in
theorem gFig_sgn (v : Nat) (h : v < 10) : gFig (sgn v) = some v := by
  have e := sgn_nat v (by omega)
  rw [if_pos h] at e
  unfold gFig
  rw [e, if_pos (by omega)]
  congr 1; omega
set_option maxRecDepth 100000 in
theorem okL_fig (l : List UInt8) : okL gFig l = allFig l := by
  unfold okL allFig
  congr 1
  funext c
  unfold gFig isFig
  split
  · simp; omega
  · rename_i h
    rw [Bool.eq_iff_iff]
    simp
    omega
set_option maxRecDepth 100000 in
theorem okL_at (g : UInt8 → Option Nat) (l : List UInt8) (h : okL g l = true) (k : Nat) (hk : k < l.length) : ∃ v, g l[k] = some v := by
  unfold okL at h
  rw [List.all_eq_true] at h
  exact Option.isSome_iff_exists.1 (h _ (List.getElem_mem hk))

set_option maxRecDepth 100000 in
/-- Hex behind packing: the signs, a nought ahead of an odd count -/
theorem hx_packL (g : UInt8 → Option Nat) (hg : Worth g) (hu : Undoes g) (l : List UInt8) (h : okL g l = true) : hx (packL g l) = (if l.length % 2 = 1 then [48] else []) ++ l := by
  have hlen : (hx (packL g l)).length = ((if l.length % 2 = 1 then [48] else []) ++ l).length := by
    rw [hx_length, packL_length, List.length_append]
    split <;> simp <;> omega
  apply List.ext_getElem hlen
  intro i h1 h2
  rw [hx_get, nib_packL g hg l i (by rw [hx_length, packL_length] at h1; exact h1)]
  unfold hvF
  rcases Nat.mod_two_eq_zero_or_one l.length with h0 | h0
  · simp only [h0] at h2 ⊢
    simp at h2
    obtain ⟨v, hv⟩ := okL_at g l h i h2
    rw [if_neg (by omega), Nat.sub_zero, getD_at l i h2, hv]
    simp [hu _ _ hv]
  · simp only [h0] at h2 ⊢
    simp at h2
    match i, h2 with
    | 0, _ => rfl
    | i + 1, h2 =>
      have hi : i < l.length := by omega
      obtain ⟨v, hv⟩ := okL_at g l h i hi
      rw [if_neg (by omega), Nat.add_sub_cancel, getD_at l i hi, hv]
      simp [hu _ _ hv]
set_option maxRecDepth 100000 in
/-- packing behind Hex -/
theorem packL_hx (g : UInt8 → Option Nat) (hg : Worth g) (l : List UInt8) (h : ∀ i, i < 2 * l.length → g (sgn (nib l i)) = some (nib l i)) : packL g (hx l) = l := by
  have hlen : (packL g (hx l)).length = l.length := by rw [packL_length, hx_length]; omega
  apply nib_ext _ _ hlen
  intro i hi
  rw [hlen] at hi
  rw [nib_packL g hg _ i (by rw [hx_length]; omega)]
  unfold hvF
  rw [hx_length, show 2 * l.length % 2 = 0 by omega, if_neg (by omega), Nat.sub_zero, getD_at _ _ (by rw [hx_length]; exact hi), hx_get, h i hi]
  rfl
set_option maxRecDepth 100000 in
/-- packing an odd count: as with a nought ahead -/
theorem packL_odd (l : List UInt8) (h : l.length % 2 = 1) : packL gFig (48 :: l) = packL gFig l := by
  have hlen : (packL gFig (48 :: l)).length = (packL gFig l).length := by rw [packL_length, packL_length, List.length_cons]; omega
  apply nib_ext _ _ hlen
  intro i hi
  rw [packL_length, List.length_cons] at hi
  rw [nib_packL _ gFig_w _ i (by rw [List.length_cons]; omega), nib_packL _ gFig_w _ i (by omega)]
  unfold hvF
  rw [List.length_cons, show (l.length + 1) % 2 = 0 by omega, h]
  match i with
  | 0 => rfl
  | i + 1 => rw [if_neg (by omega), if_neg (by omega), Nat.sub_zero, List.getD_cons_succ, Nat.add_sub_cancel]
set_option maxRecDepth 100000 in
theorem packL_append (s t : List UInt8) (hs : s.length % 2 = 0) (ht : t.length % 2 = 0) : packL gFig (s ++ t) = packL gFig s ++ packL gFig t := by
  have hlen : (packL gFig (s ++ t)).length = (packL gFig s ++ packL gFig t).length := by rw [List.length_append, packL_length, packL_length, packL_length, List.length_append]; omega
  apply List.ext_getElem hlen
  intro i h1 h2
  rw [packL_get]
  rw [packL_length, List.length_append] at h1
  by_cases hi : i < s.length / 2
  · rw [List.getElem_append_left (by rw [packL_length]; omega), packL_get]
    unfold pkAt hvF
    rw [List.length_append, show (s.length + t.length) % 2 = 0 by omega, hs, if_neg (by omega), if_neg (by omega), if_neg (by omega), if_neg (by omega)]
    simp only [Nat.sub_zero]
    rw [getD_at _ _ (by rw [List.length_append]; omega), getD_at _ _ (by rw [List.length_append]; omega), getD_at _ _ (by omega), getD_at _ _ (by omega), List.getElem_append_left (by omega), List.getElem_append_left (by omega)]
  · have e : (packL gFig s).length = s.length / 2 := by rw [packL_length]; omega
    rw [List.getElem_append_right (by omega), packL_get]
    unfold pkAt hvF
    rw [e, List.length_append, show (s.length + t.length) % 2 = 0 by omega, ht, if_neg (by omega), if_neg (by omega), if_neg (by omega), if_neg (by omega)]
    simp only [Nat.sub_zero]
    rw [getD_at _ _ (by rw [List.length_append]; omega), getD_at _ _ (by rw [List.length_append]; omega), getD_at _ _ (by omega), getD_at _ _ (by omega), List.getElem_append_right (by omega), List.getElem_append_right (by omega)]
    congr 4 <;> congr 3 <;> omega
set_option maxRecDepth 100000 in
theorem packL_seven (s : List UInt8) (hs : s.length % 2 = 0) : packL gFig (55 :: s) = 7 :: packL gFig s := by
  have hlen : (packL gFig (55 :: s)).length = (7 :: packL gFig s).length := by rw [List.length_cons, packL_length, packL_length, List.length_cons]; omega
  apply List.ext_getElem hlen
  intro i h1 h2
  rw [packL_get]
  match i, h1, h2 with
  | 0, _, _ =>
    unfold pkAt hvF
    rw [List.length_cons, show (s.length + 1) % 2 = 1 by omega]
    rfl
  | i + 1, h1, h2 =>
    rw [packL_length, List.length_cons] at h1
    rw [List.getElem_cons_succ, packL_get]
    unfold pkAt hvF
    rw [List.length_cons, show (s.length + 1) % 2 = 1 by omega, hs, if_neg (by omega), if_neg (by omega), if_neg (by omega), if_neg (by omega)]
    rw [show 2 * (i + 1) - 1 = 2 * i + 1 by omega, show 2 * (i + 1) + 1 - 1 = (2 * i + 1) + 1 by omega, List.getD_cons_succ, List.getD_cons_succ]
    rfl
end Go.Proofs.YtfppcmhhbheaiaaDoor
/- Words of 32 bits: SHA-256's functions, plain; the walk's spelling of the operations; small callees. -/

namespace Go.Proofs.YtfppcmhhbheaiaaDoor
open Go.RowKit

/-- a word's value -/
abbrev wv (x : UInt32) : Value := .int .u32 (x.toNat : Int)

def rotr (x : UInt32) (n : Nat) : UInt32 := (x >>> UInt32.ofNat n) ||| (x <<< UInt32.ofNat (32 - n))
def sm0 (x : UInt32) : UInt32 := (rotr x 7 ^^^ rotr x 18) ^^^ (x >>> UInt32.ofNat 3)
def sm1 (x : UInt32) : UInt32 := (rotr x 17 ^^^ rotr x 19) ^^^ (x >>> UInt32.ofNat 10)
def gr0 (x : UInt32) : UInt32 := (rotr x 2 ^^^ rotr x 13) ^^^ rotr x 22
def gr1 (x : UInt32) : UInt32 := (rotr x 6 ^^^ rotr x 11) ^^^ rotr x 25
def chF (e f g : UInt32) : UInt32 := (e &&& f) ^^^ ((~~~e) &&& g)
def majF (a b c : UInt32) : UInt32 := ((a &&& b) ^^^ (a &&& c)) ^^^ (b &&& c)

set_option maxRecDepth 100000 in
theorem w_lt (x : UInt32) : (x.toNat : Int) < 4294967296 := by have := x.toNat_lt; omega
set_option maxRecDepth 100000 in
theorem w_and (a b : UInt32) : bits .and .u32 (a.toNat : Int) (b.toNat : Int) = ((a &&& b).toNat : Int) := by
  rw [u32_and_nat _ _ a.toNat_lt b.toNat_lt, UInt32.toNat_and]
set_option maxRecDepth 100000 in
theorem w_or (a b : UInt32) : bits .or .u32 (a.toNat : Int) (b.toNat : Int) = ((a ||| b).toNat : Int) := by
  rw [u32_or_nat _ _ a.toNat_lt b.toNat_lt, UInt32.toNat_or]
set_option maxRecDepth 100000 in
theorem w_xor (a b : UInt32) : bits .xor .u32 (a.toNat : Int) (b.toNat : Int) = ((a ^^^ b).toNat : Int) := by
  rw [u32_xor_nat _ _ a.toNat_lt b.toNat_lt, UInt32.toNat_xor]
set_option maxRecDepth 100000 in
theorem w_not (a : UInt32) : bits .xor .u32 4294967295 (a.toNat : Int) = ((~~~a).toNat : Int) := by
  have h := w_xor (-1) a
  have e : (-1 : UInt32) ^^^ a = ~~~a := by
    rw [UInt32.neg_one_xor]
  rw [e] at h
  exact h
set_option maxRecDepth 100000 in
theorem w_not' (a : UInt32) : bits .xor .u32 IntKind.u32.max (a.toNat : Int) = ((~~~a).toNat : Int) := w_not a
set_option maxRecDepth 100000 in
theorem w_add (a b : UInt32) : IntKind.u32.wrap ((a.toNat : Int) + (b.toNat : Int)) = ((a + b).toNat : Int) := by
  rw [IntKind.wrap_u32', UInt32.toNat_add]
  omega
set_option maxRecDepth 100000 in
theorem w_add' (a b : UInt32) : ((a.toNat : Int) + (b.toNat : Int)) % 4294967296 = ((a + b).toNat : Int) := by
  rw [UInt32.toNat_add]
  omega
set_option maxRecDepth 100000 in
theorem w_shr (x : UInt32) (n : Nat) (h : n < 32) : (x.toNat : Int) / ((2 ^ n : Nat) : Int) = ((x >>> UInt32.ofNat n).toNat : Int) := by
  have e : (UInt32.ofNat n).toNat % 32 = n := by
    rw [UInt32.toNat_ofNat']
    omega
  rw [UInt32.toNat_shiftRight, e, Nat.shiftRight_eq_div_pow]
  rfl
set_option maxRecDepth 100000 in
theorem w_shl (x : UInt32) (n : Nat) (h : n < 32) : ((x.toNat : Int) * ((2 ^ n : Nat) : Int)) % 4294967296 = ((x <<< UInt32.ofNat n).toNat : Int) := by
  have e : (UInt32.ofNat n).toNat % 32 = n := by
    rw [UInt32.toNat_ofNat']
    omega
  rw [UInt32.toNat_shiftLeft, e, Nat.shiftLeft_eq, ← Int.natCast_mul]
  omega

set_option maxRecDepth 100000 in
/-- the turned word, in both orders -/
theorem w_rot (x : UInt32) (n : Nat) (h1 : 1 ≤ n) (h2 : n < 32) :
    bits .or .u32 ((x.toNat : Int) / ((2 ^ n : Nat) : Int)) (((x.toNat : Int) * ((2 ^ (32 - n) : Nat) : Int)) % 4294967296) = ((rotr x n).toNat : Int) := by
  rw [w_shr x n h2, w_shl x (32 - n) (by omega), w_or]
  rfl
set_option maxRecDepth 100000 in
theorem w_rot' (x : UInt32) (n : Nat) (h1 : 1 ≤ n) (h2 : n < 32) :
    bits .or .u32 (((x.toNat : Int) * ((2 ^ (32 - n) : Nat) : Int)) % 4294967296) ((x.toNat : Int) / ((2 ^ n : Nat) : Int)) = ((rotr x n).toNat : Int) := by
  rw [w_shr x n h2, w_shl x (32 - n) (by omega), w_or]
  unfold rotr
  rw [UInt32.or_comm]

def rotsB (n : Nat) : Prop := n = 2 ∨ n = 6 ∨ n = 7 ∨ n = 11 ∨ n = 13 ∨ n = 17 ∨ n = 18 ∨ n = 19 ∨ n = 22 ∨ n = 25

set_option maxRecDepth 100000 in
theorem rotl_2 (x : UInt32) (w : World) :
    Calls Tryd.prog 58 #[wv x, .int .i64 (-2)] w fun e w' => e = .returned (wv (rotr x 2)) ∧ w = w' := by
  have h1 := w_lt x
  have hr := Lib.hid (w_rot' x 2 (by decide) (by decide))
  have ha : bits BinOp.and IntKind.u64 (IntKind.u64.wrap (-2)) 31 = 30 := by decide
  go_enter Tryd.func58, Tryd.ntmps58
  go_wp2
  go_ret
  exact ⟨ret_int hr.out, rfl⟩
set_option maxRecDepth 100000 in
theorem right_2 (x : UInt32) (w : World) :
    Calls Tryd.prog 57 #[wv x, .int .i64 2] w fun e w' => e = .returned (wv (rotr x 2)) ∧ w = w' := by
  go_enter Tryd.func57, Tryd.ntmps57
  go_wp2_with (go_at_call 58; refine (rotl_2 x _).mono ?_; rintro e w' ⟨rfl, rfl⟩)
  go_ret
  exact ⟨rfl, rfl⟩
set_option maxRecDepth 100000 in
theorem turn_2 (x : UInt32) (w : World) :
    Calls Tryd.prog 45 #[wv x, .int .u32 2] w fun e w' => e = .returned (wv (rotr x 2)) ∧ w = w' := by
  have h1 := w_lt x
  have hr := Lib.hid (w_rot x 2 (by decide) (by decide))
  go_enter Tryd.func45, Tryd.ntmps45
  go_wp2
  go_ret
  exact ⟨ret_int hr.out, rfl⟩
set_option maxRecDepth 100000 in
theorem rotl_6 (x : UInt32) (w : World) :
    Calls Tryd.prog 58 #[wv x, .int .i64 (-6)] w fun e w' => e = .returned (wv (rotr x 6)) ∧ w = w' := by
  have h1 := w_lt x
  have hr := Lib.hid (w_rot' x 6 (by decide) (by decide))
  have ha : bits BinOp.and IntKind.u64 (IntKind.u64.wrap (-6)) 31 = 26 := by decide
  go_enter Tryd.func58, Tryd.ntmps58
  go_wp2
  go_ret
  exact ⟨ret_int hr.out, rfl⟩
set_option maxRecDepth 100000 in
theorem right_6 (x : UInt32) (w : World) :
    Calls Tryd.prog 57 #[wv x, .int .i64 6] w fun e w' => e = .returned (wv (rotr x 6)) ∧ w = w' := by
  go_enter Tryd.func57, Tryd.ntmps57
  go_wp2_with (go_at_call 58; refine (rotl_6 x _).mono ?_; rintro e w' ⟨rfl, rfl⟩)
  go_ret
  exact ⟨rfl, rfl⟩
set_option maxRecDepth 100000 in
theorem turn_6 (x : UInt32) (w : World) :
    Calls Tryd.prog 45 #[wv x, .int .u32 6] w fun e w' => e = .returned (wv (rotr x 6)) ∧ w = w' := by
  have h1 := w_lt x
  have hr := Lib.hid (w_rot x 6 (by decide) (by decide))
  go_enter Tryd.func45, Tryd.ntmps45
  go_wp2
  go_ret
  exact ⟨ret_int hr.out, rfl⟩
set_option maxRecDepth 100000 in
theorem rotl_7 (x : UInt32) (w : World) :
    Calls Tryd.prog 58 #[wv x, .int .i64 (-7)] w fun e w' => e = .returned (wv (rotr x 7)) ∧ w = w' := by
  have h1 := w_lt x
  have hr := Lib.hid (w_rot' x 7 (by decide) (by decide))
  have ha : bits BinOp.and IntKind.u64 (IntKind.u64.wrap (-7)) 31 = 25 := by decide
  go_enter Tryd.func58, Tryd.ntmps58
  go_wp2
  go_ret
  exact ⟨ret_int hr.out, rfl⟩
set_option maxRecDepth 100000 in
theorem right_7 (x : UInt32) (w : World) :
    Calls Tryd.prog 57 #[wv x, .int .i64 7] w fun e w' => e = .returned (wv (rotr x 7)) ∧ w = w' := by
  go_enter Tryd.func57, Tryd.ntmps57
  go_wp2_with (go_at_call 58; refine (rotl_7 x _).mono ?_; rintro e w' ⟨rfl, rfl⟩)
  go_ret
  exact ⟨rfl, rfl⟩
set_option maxRecDepth 100000 in
theorem turn_7 (x : UInt32) (w : World) :
    Calls Tryd.prog 45 #[wv x, .int .u32 7] w fun e w' => e = .returned (wv (rotr x 7)) ∧ w = w' := by
  have h1 := w_lt x
  have hr := Lib.hid (w_rot x 7 (by decide) (by decide))
  go_enter Tryd.func45, Tryd.ntmps45
  go_wp2
  go_ret
  exact ⟨ret_int hr.out, rfl⟩
set_option maxRecDepth 100000 in
theorem rotl_11 (x : UInt32) (w : World) :
    Calls Tryd.prog 58 #[wv x, .int .i64 (-11)] w fun e w' => e = .returned (wv (rotr x 11)) ∧ w = w' := by
  have h1 := w_lt x
  have hr := Lib.hid (w_rot' x 11 (by decide) (by decide))
  have ha : bits BinOp.and IntKind.u64 (IntKind.u64.wrap (-11)) 31 = 21 := by decide
  go_enter Tryd.func58, Tryd.ntmps58
  go_wp2
  go_ret
  exact ⟨ret_int hr.out, rfl⟩
set_option maxRecDepth 100000 in
theorem right_11 (x : UInt32) (w : World) :
    Calls Tryd.prog 57 #[wv x, .int .i64 11] w fun e w' => e = .returned (wv (rotr x 11)) ∧ w = w' := by
  go_enter Tryd.func57, Tryd.ntmps57
  go_wp2_with (go_at_call 58; refine (rotl_11 x _).mono ?_; rintro e w' ⟨rfl, rfl⟩)
  go_ret
  exact ⟨rfl, rfl⟩
set_option maxRecDepth 100000 in
theorem turn_11 (x : UInt32) (w : World) :
    Calls Tryd.prog 45 #[wv x, .int .u32 11] w fun e w' => e = .returned (wv (rotr x 11)) ∧ w = w' := by
  have h1 := w_lt x
  have hr := Lib.hid (w_rot x 11 (by decide) (by decide))
  go_enter Tryd.func45, Tryd.ntmps45
  go_wp2
  go_ret
  exact ⟨ret_int hr.out, rfl⟩
set_option maxRecDepth 100000 in
theorem rotl_13 (x : UInt32) (w : World) :
    Calls Tryd.prog 58 #[wv x, .int .i64 (-13)] w fun e w' => e = .returned (wv (rotr x 13)) ∧ w = w' := by
  have h1 := w_lt x
  have hr := Lib.hid (w_rot' x 13 (by decide) (by decide))
  have ha : bits BinOp.and IntKind.u64 (IntKind.u64.wrap (-13)) 31 = 19 := by decide
  go_enter Tryd.func58, Tryd.ntmps58
  go_wp2
  go_ret
  exact ⟨ret_int hr.out, rfl⟩
set_option maxRecDepth 100000 in
theorem right_13 (x : UInt32) (w : World) :
    Calls Tryd.prog 57 #[wv x, .int .i64 13] w fun e w' => e = .returned (wv (rotr x 13)) ∧ w = w' := by
  go_enter Tryd.func57, Tryd.ntmps57
  go_wp2_with (go_at_call 58; refine (rotl_13 x _).mono ?_; rintro e w' ⟨rfl, rfl⟩)
  go_ret
  exact ⟨rfl, rfl⟩
set_option maxRecDepth 100000 in
theorem turn_13 (x : UInt32) (w : World) :
    Calls Tryd.prog 45 #[wv x, .int .u32 13] w fun e w' => e = .returned (wv (rotr x 13)) ∧ w = w' := by
  have h1 := w_lt x
  have hr := Lib.hid (w_rot x 13 (by decide) (by decide))
  go_enter Tryd.func45, Tryd.ntmps45
  go_wp2
  go_ret
  exact ⟨ret_int hr.out, rfl⟩
set_option maxRecDepth 100000 in
theorem rotl_17 (x : UInt32) (w : World) :
    Calls Tryd.prog 58 #[wv x, .int .i64 (-17)] w fun e w' => e = .returned (wv (rotr x 17)) ∧ w = w' := by
  have h1 := w_lt x
  have hr := Lib.hid (w_rot' x 17 (by decide) (by decide))
  have ha : bits BinOp.and IntKind.u64 (IntKind.u64.wrap (-17)) 31 = 15 := by decide
  go_enter Tryd.func58, Tryd.ntmps58
  go_wp2
  go_ret
  exact ⟨ret_int hr.out, rfl⟩
set_option maxRecDepth 100000 in
theorem right_17 (x : UInt32) (w : World) :
    Calls Tryd.prog 57 #[wv x, .int .i64 17] w fun e w' => e = .returned (wv (rotr x 17)) ∧ w = w' := by
  go_enter Tryd.func57, Tryd.ntmps57
  go_wp2_with (go_at_call 58; refine (rotl_17 x _).mono ?_; rintro e w' ⟨rfl, rfl⟩)
  go_ret
  exact ⟨rfl, rfl⟩
set_option maxRecDepth 100000 in
theorem turn_17 (x : UInt32) (w : World) :
    Calls Tryd.prog 45 #[wv x, .int .u32 17] w fun e w' => e = .returned (wv (rotr x 17)) ∧ w = w' := by
  have h1 := w_lt x
  have hr := Lib.hid (w_rot x 17 (by decide) (by decide))
  go_enter Tryd.func45, Tryd.ntmps45
  go_wp2
  go_ret
  exact ⟨ret_int hr.out, rfl⟩
set_option maxRecDepth 100000 in
theorem rotl_18 (x : UInt32) (w : World) :
    Calls Tryd.prog 58 #[wv x, .int .i64 (-18)] w fun e w' => e = .returned (wv (rotr x 18)) ∧ w = w' := by
  have h1 := w_lt x
  have hr := Lib.hid (w_rot' x 18 (by decide) (by decide))
  have ha : bits BinOp.and IntKind.u64 (IntKind.u64.wrap (-18)) 31 = 14 := by decide
  go_enter Tryd.func58, Tryd.ntmps58
  go_wp2
  go_ret
  exact ⟨ret_int hr.out, rfl⟩
set_option maxRecDepth 100000 in
theorem right_18 (x : UInt32) (w : World) :
    Calls Tryd.prog 57 #[wv x, .int .i64 18] w fun e w' => e = .returned (wv (rotr x 18)) ∧ w = w' := by
  go_enter Tryd.func57, Tryd.ntmps57
  go_wp2_with (go_at_call 58; refine (rotl_18 x _).mono ?_; rintro e w' ⟨rfl, rfl⟩)
  go_ret
  exact ⟨rfl, rfl⟩
set_option maxRecDepth 100000 in
theorem turn_18 (x : UInt32) (w : World) :
    Calls Tryd.prog 45 #[wv x, .int .u32 18] w fun e w' => e = .returned (wv (rotr x 18)) ∧ w = w' := by
  have h1 := w_lt x
  have hr := Lib.hid (w_rot x 18 (by decide) (by decide))
  go_enter Tryd.func45, Tryd.ntmps45
  go_wp2
  go_ret
  exact ⟨ret_int hr.out, rfl⟩
set_option maxRecDepth 100000 in
theorem rotl_19 (x : UInt32) (w : World) :
    Calls Tryd.prog 58 #[wv x, .int .i64 (-19)] w fun e w' => e = .returned (wv (rotr x 19)) ∧ w = w' := by
  have h1 := w_lt x
  have hr := Lib.hid (w_rot' x 19 (by decide) (by decide))
  have ha : bits BinOp.and IntKind.u64 (IntKind.u64.wrap (-19)) 31 = 13 := by decide
  go_enter Tryd.func58, Tryd.ntmps58
  go_wp2
  go_ret
  exact ⟨ret_int hr.out, rfl⟩
set_option maxRecDepth 100000 in
theorem right_19 (x : UInt32) (w : World) :
    Calls Tryd.prog 57 #[wv x, .int .i64 19] w fun e w' => e = .returned (wv (rotr x 19)) ∧ w = w' := by
  go_enter Tryd.func57, Tryd.ntmps57
  go_wp2_with (go_at_call 58; refine (rotl_19 x _).mono ?_; rintro e w' ⟨rfl, rfl⟩)
  go_ret
  exact ⟨rfl, rfl⟩
set_option maxRecDepth 100000 in
theorem turn_19 (x : UInt32) (w : World) :
    Calls Tryd.prog 45 #[wv x, .int .u32 19] w fun e w' => e = .returned (wv (rotr x 19)) ∧ w = w' := by
  have h1 := w_lt x
  have hr := Lib.hid (w_rot x 19 (by decide) (by decide))
  go_enter Tryd.func45, Tryd.ntmps45
  go_wp2
  go_ret
  exact ⟨ret_int hr.out, rfl⟩
set_option maxRecDepth 100000 in
theorem rotl_22 (x : UInt32) (w : World) :
    Calls Tryd.prog 58 #[wv x, .int .i64 (-22)] w fun e w' => e = .returned (wv (rotr x 22)) ∧ w = w' := by
  have h1 := w_lt x
  have hr := Lib.hid (w_rot' x 22 (by decide) (by decide))
  have ha : bits BinOp.and IntKind.u64 (IntKind.u64.wrap (-22)) 31 = 10 := by decide
  go_enter Tryd.func58, Tryd.ntmps58
  go_wp2
  go_ret
  exact ⟨ret_int hr.out, rfl⟩
set_option maxRecDepth 100000 in
theorem right_22 (x : UInt32) (w : World) :
    Calls Tryd.prog 57 #[wv x, .int .i64 22] w fun e w' => e = .returned (wv (rotr x 22)) ∧ w = w' := by
  go_enter Tryd.func57, Tryd.ntmps57
  go_wp2_with (go_at_call 58; refine (rotl_22 x _).mono ?_; rintro e w' ⟨rfl, rfl⟩)
  go_ret
  exact ⟨rfl, rfl⟩
set_option maxRecDepth 100000 in
theorem turn_22 (x : UInt32) (w : World) :
    Calls Tryd.prog 45 #[wv x, .int .u32 22] w fun e w' => e = .returned (wv (rotr x 22)) ∧ w = w' := by
  have h1 := w_lt x
  have hr := Lib.hid (w_rot x 22 (by decide) (by decide))
  go_enter Tryd.func45, Tryd.ntmps45
  go_wp2
  go_ret
  exact ⟨ret_int hr.out, rfl⟩
set_option maxRecDepth 100000 in
theorem rotl_25 (x : UInt32) (w : World) :
    Calls Tryd.prog 58 #[wv x, .int .i64 (-25)] w fun e w' => e = .returned (wv (rotr x 25)) ∧ w = w' := by
  have h1 := w_lt x
  have hr := Lib.hid (w_rot' x 25 (by decide) (by decide))
  have ha : bits BinOp.and IntKind.u64 (IntKind.u64.wrap (-25)) 31 = 7 := by decide
  go_enter Tryd.func58, Tryd.ntmps58
  go_wp2
  go_ret
  exact ⟨ret_int hr.out, rfl⟩
set_option maxRecDepth 100000 in
theorem right_25 (x : UInt32) (w : World) :
    Calls Tryd.prog 57 #[wv x, .int .i64 25] w fun e w' => e = .returned (wv (rotr x 25)) ∧ w = w' := by
  go_enter Tryd.func57, Tryd.ntmps57
  go_wp2_with (go_at_call 58; refine (rotl_25 x _).mono ?_; rintro e w' ⟨rfl, rfl⟩)
  go_ret
  exact ⟨rfl, rfl⟩
set_option maxRecDepth 100000 in
theorem turn_25 (x : UInt32) (w : World) :
    Calls Tryd.prog 45 #[wv x, .int .u32 25] w fun e w' => e = .returned (wv (rotr x 25)) ∧ w = w' := by
  have h1 := w_lt x
  have hr := Lib.hid (w_rot x 25 (by decide) (by decide))
  go_enter Tryd.func45, Tryd.ntmps45
  go_wp2
  go_ret
  exact ⟨ret_int hr.out, rfl⟩
set_option maxRecDepth 100000 in
theorem small0_any (x : UInt32) (w : World) :
    Calls Tryd.prog 56 #[wv x] w fun e w' => e = .returned (wv (sm0 x)) ∧ w = w' := by
  have h1 := w_lt x
  have hs : (x.toNat : Int) / 8 = ((x >>> UInt32.ofNat 3).toNat : Int) := w_shr x 3 (by decide)
  have HS := Lib.hid hs
  clear hs
  go_enter Tryd.func56, Tryd.ntmps56
  go_wp2_with fail
  refine (right_7 x _).mono ?_
  rintro e w1 ⟨rfl, rfl⟩
  go_wp2_with fail
  refine (right_18 x _).mono ?_
  rintro e w1 ⟨rfl, rfl⟩
  go_wp2_with fail
  go_ret
  exact ⟨ret_int (by rw [HS.out, w_xor, w_xor]; rfl), rfl⟩
set_option maxRecDepth 100000 in
theorem small1_any (x : UInt32) (w : World) :
    Calls Tryd.prog 55 #[wv x] w fun e w' => e = .returned (wv (sm1 x)) ∧ w = w' := by
  have h1 := w_lt x
  have hs : (x.toNat : Int) / 1024 = ((x >>> UInt32.ofNat 10).toNat : Int) := w_shr x 10 (by decide)
  have HS := Lib.hid hs
  clear hs
  go_enter Tryd.func55, Tryd.ntmps55
  go_wp2_with fail
  refine (right_17 x _).mono ?_
  rintro e w1 ⟨rfl, rfl⟩
  go_wp2_with fail
  refine (right_19 x _).mono ?_
  rintro e w1 ⟨rfl, rfl⟩
  go_wp2_with fail
  go_ret
  exact ⟨ret_int (by rw [HS.out, w_xor, w_xor]; rfl), rfl⟩
set_option maxRecDepth 100000 in
theorem great0_any (x : UInt32) (w : World) :
    Calls Tryd.prog 54 #[wv x] w fun e w' => e = .returned (wv (gr0 x)) ∧ w = w' := by
  have h1 := w_lt x
  go_enter Tryd.func54, Tryd.ntmps54
  go_wp2_with fail
  refine (right_2 x _).mono ?_
  rintro e w1 ⟨rfl, rfl⟩
  go_wp2_with fail
  refine (right_13 x _).mono ?_
  rintro e w1 ⟨rfl, rfl⟩
  go_wp2_with fail
  refine (right_22 x _).mono ?_
  rintro e w1 ⟨rfl, rfl⟩
  go_wp2_with fail
  go_ret
  exact ⟨ret_int (by rw [w_xor, w_xor]; rfl), rfl⟩
set_option maxRecDepth 100000 in
theorem great1_any (x : UInt32) (w : World) :
    Calls Tryd.prog 53 #[wv x] w fun e w' => e = .returned (wv (gr1 x)) ∧ w = w' := by
  have h1 := w_lt x
  go_enter Tryd.func53, Tryd.ntmps53
  go_wp2_with fail
  refine (right_6 x _).mono ?_
  rintro e w1 ⟨rfl, rfl⟩
  go_wp2_with fail
  refine (right_11 x _).mono ?_
  rintro e w1 ⟨rfl, rfl⟩
  go_wp2_with fail
  refine (right_25 x _).mono ?_
  rintro e w1 ⟨rfl, rfl⟩
  go_wp2_with fail
  go_ret
  exact ⟨ret_int (by rw [w_xor, w_xor]; rfl), rfl⟩
end Go.Proofs.YtfppcmhhbheaiaaDoor
