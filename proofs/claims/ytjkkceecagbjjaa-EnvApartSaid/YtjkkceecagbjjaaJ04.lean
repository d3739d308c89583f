
/- Lists of figures and bytes: plain facts. -/
import Derived.Test.YtjkkceecagbjjaaJ03
import Derived.Test.YtjkkceecagbjjaaJ01
import Derived.ProofKit
import Derived.OpenShut
import Derived.ShutString
import Derived.ChangeOld
import Derived.Lib.SmallJoins
namespace Go.Proofs.Ytjkkceecagbjjaa
open Go.RowKit

set_option maxRecDepth 100000 in
theorem dgL_succ (z b n w : Nat) : dgL z b n (w + 1) = UInt8.ofNat (z + n / b ^ w % b) :: dgL z b n w := by
  unfold dgL
  rw [List.range_succ_eq_map, List.map_cons, List.map_map]
  congr 1
  apply List.map_congr_left
  intro p _
  simp only [Function.comp, dgAt]
  rw [show w + 1 - 1 - (p + 1) = w - 1 - p by omega]
set_option maxRecDepth 100000 in
theorem dgL_mod (z b n w : Nat) : dgL z b (n % b ^ w) w = dgL z b n w := by
  unfold dgL
  apply List.map_congr_left
  intro p hp
  have hp := List.mem_range.1 hp
  unfold dgAt
  congr 2
  have e : b ^ w = b ^ (w - 1 - p) * (b * b ^ p) := by
    rw [← Nat.mul_assoc, ← Nat.pow_succ, ← Nat.pow_add]
    congr 1
    omega
  rw [e, Nat.mod_mul_right_div_self, Nat.mod_mul_right_mod]
set_option maxRecDepth 100000 in
theorem dgL_snoc (z b n w : Nat) : dgL z b n (w + 1) = dgL z b (n / b) w ++ [UInt8.ofNat (z + n % b)] := by
  unfold dgL
  rw [List.range_succ, List.map_append]
  congr 1
  · apply List.map_congr_left
    intro p hp
    have hp := List.mem_range.1 hp
    unfold dgAt
    rw [Nat.div_div_eq_div_mul, show w + 1 - 1 - p = (w - 1 - p) + 1 by omega, Nat.pow_succ, Nat.mul_comm b]
  · simp [dgAt]

set_option maxRecDepth 100000 in
theorem ofNat_mod {z b x : Nat} (hb : 0 < b) (hz : z + b ≤ 256) : (UInt8.ofNat (z + x % b)).toNat = z + x % b := by
  have := Nat.mod_lt x hb
  rw [UInt8.toNat_ofNat']
  exact Nat.mod_eq_of_lt (by omega)
set_option maxRecDepth 100000 in
theorem byte_lt {z b x y : Nat} (hb : 0 < b) (hz : z + b ≤ 256) : (UInt8.ofNat (z + x % b) < UInt8.ofNat (z + y % b)) ↔ x % b < y % b := by
  rw [UInt8.lt_iff_toNat_lt, ofNat_mod hb hz, ofNat_mod hb hz]
  omega
set_option maxRecDepth 100000 in
theorem byte_eq {z b x y : Nat} (hb : 0 < b) (hz : z + b ≤ 256) : (UInt8.ofNat (z + x % b) = UInt8.ofNat (z + y % b)) ↔ x % b = y % b := by
  rw [← UInt8.toNat_inj, ofNat_mod hb hz, ofNat_mod hb hz]
  omega

set_option maxRecDepth 100000 in
theorem dgL_less (z b : Nat) (hb : 0 < b) (hz : z + b ≤ 256) (w : Nat) : ∀ m n, Op.bytesLess (dgL z b m w) (dgL z b n w) = decide (m % b ^ w < n % b ^ w) := by
  induction w with
  | zero => intro m n; simp [dgL, Op.bytesLess, Nat.mod_one]
  | succ w ih =>
    intro m n
    rw [dgL_succ, dgL_succ, Op.bytesLess, ih, Bool.eq_iff_iff]
    simp only [Bool.or_eq_true, Bool.and_eq_true, decide_eq_true_eq, beq_iff_eq, byte_lt hb hz, byte_eq hb hz]
    have hp : 0 < b ^ w := Nat.pow_pos hb
    have e : ∀ x, x % b ^ (w + 1) = b ^ w * (x / b ^ w % b) + x % b ^ w := by
      intro x
      rw [Nat.pow_succ, Nat.mod_mul]
      omega
    rw [e m, e n]
    have hm := Nat.mod_lt m hp
    have hn := Nat.mod_lt n hp
    generalize m / b ^ w % b = x
    generalize n / b ^ w % b = y
    generalize m % b ^ w = r at *
    generalize n % b ^ w = t at *
    generalize b ^ w = B at *
    constructor
    · rintro (h | ⟨h, h2⟩)
      · have : B * (x + 1) ≤ B * y := Nat.mul_le_mul_left _ h
        rw [Nat.mul_add] at this
        omega
      · subst h; omega
    · intro h
      rcases Nat.lt_trichotomy x y with h1 | h1 | h1
      · exact .inl h1
      · subst h1; exact .inr ⟨rfl, by omega⟩
      · have : B * (y + 1) ≤ B * x := Nat.mul_le_mul_left _ h1
        rw [Nat.mul_add] at this
        omega
set_option maxRecDepth 100000 in
theorem dgL_inj (z b : Nat) (hb : 0 < b) (hz : z + b ≤ 256) (w : Nat) : ∀ m n, dgL z b m w = dgL z b n w ↔ m % b ^ w = n % b ^ w := by
  induction w with
  | zero => intro m n; simp [dgL, Nat.mod_one]
  | succ w ih =>
    intro m n
    rw [dgL_succ, dgL_succ, List.cons.injEq, ih, byte_eq hb hz]
    have hp : 0 < b ^ w := Nat.pow_pos hb
    have e : ∀ x, x % b ^ (w + 1) = b ^ w * (x / b ^ w % b) + x % b ^ w := by
      intro x
      rw [Nat.pow_succ, Nat.mod_mul]
      omega
    rw [e m, e n]
    have hm := Nat.mod_lt m hp
    have hn := Nat.mod_lt n hp
    generalize m / b ^ w % b = x
    generalize n / b ^ w % b = y
    generalize m % b ^ w = r at *
    generalize n % b ^ w = t at *
    generalize b ^ w = B at *
    constructor
    · rintro ⟨rfl, rfl⟩; rfl
    · intro h
      rcases Nat.lt_trichotomy x y with h1 | h1 | h1
      · have : B * (x + 1) ≤ B * y := Nat.mul_le_mul_left _ h1
        rw [Nat.mul_add] at this
        omega
      · subst h1; exact ⟨rfl, by omega⟩
      · have : B * (y + 1) ≤ B * x := Nat.mul_le_mul_left _ h1
        rw [Nat.mul_add] at this
        omega

/-! there and back -/
set_option maxRecDepth 100000 in
theorem val_dgL (n w : Nat) : val (dgL 48 10 n w) = n % 10 ^ w := by
  induction w generalizing n with
  | zero => simp [dgL, val, Nat.mod_one]
  | succ w ih =>
    rw [dgL_snoc, val_snoc, ih, ofNat_mod (by omega) (by omega), Nat.pow_succ, Nat.mul_comm _ 10, Nat.mod_mul]
    omega
set_option maxRecDepth 100000 in
theorem numL_dgL (n w : Nat) : numL (dgL 0 256 n w) = n % 256 ^ w := by
  induction w generalizing n with
  | zero => simp [dgL, numL, Nat.mod_one]
  | succ w ih =>
    rw [dgL_snoc, numL_snoc, ih, ofNat_mod (by omega) (by omega), Nat.pow_succ, Nat.mul_comm _ 256, Nat.mod_mul]
    omega
set_option maxRecDepth 100000 in
theorem dgL_fig (n w : Nat) : allFig (dgL 48 10 n w) = true := by
  unfold allFig
  rw [List.all_eq_true]
  intro c hc
  obtain ⟨j, hj, rfl⟩ := List.getElem_of_mem hc
  rw [dgL_get, isFig_iff, dgAt_nat 48 10 n w j (by omega) (by omega)]
  omega
set_option maxRecDepth 100000 in
theorem dgL_val (l : List UInt8) (h : allFig l = true) : dgL 48 10 (val l) l.length = l := by
  induction l using snoc_ind with
  | h0 => rfl
  | h1 l a ih =>
    rw [all_snoc, Bool.and_eq_true] at h
    have h2 := (isFig_iff a).1 h.2
    rw [List.length_append, List.length_cons, List.length_nil, dgL_snoc, val_snoc, show (10 * val l + (a.toNat - 48)) / 10 = val l by omega, ih h.1]
    congr 2
    apply UInt8.toNat_inj.1
    rw [UInt8.toNat_ofNat']
    omega
set_option maxRecDepth 100000 in
theorem dgL_num (l : List UInt8) : dgL 0 256 (numL l) l.length = l := by
  induction l using snoc_ind with
  | h0 => rfl
  | h1 l a ih =>
    have := a.toNat_lt
    rw [List.length_append, List.length_cons, List.length_nil, dgL_snoc, numL_snoc, show (256 * numL l + a.toNat) / 256 = numL l by omega, ih]
    congr 2
    apply UInt8.toNat_inj.1
    rw [UInt8.toNat_ofNat']
    omega

/-! halves of bytes -/
def nib (l : List UInt8) (i : Nat) : Nat := if i % 2 = 0 then (l.getD (i / 2) 0).toNat / 16 else (l.getD (i / 2) 0).toNat % 16
set_option maxRecDepth 100000 in
theorem nib_lt (l : List UInt8) (i : Nat) : nib l i < 16 := by
  unfold nib
  have := (l.getD (i / 2) 0).toNat_lt
  split <;> omega
set_option maxRecDepth 100000 in
theorem hx_get (l : List UInt8) : ∀ (i : Nat) (h : i < (hx l).length), (hx l)[i] = sgn (nib l i) := by
  induction l with
  | nil => intro i h; simp [hx] at h
  | cons a l ih =>
    intro i h
    match i, h with
    | 0, h => rfl
    | 1, h => rfl
    | i + 2, h =>
      have e : hx (a :: l) = [sgn (a.toNat / 16), sgn (a.toNat % 16)] ++ hx l := by simp [hx]
      have hl : i < (hx l).length := by rw [hx_length] at h ⊢; simp only [List.length_cons] at h; omega
      have h2 : (hx (a :: l))[i + 2] = (hx l)[i] := by simp [e]
      rw [h2, ih i hl]
      unfold nib
      rw [show (i + 2) % 2 = i % 2 by omega, show (i + 2) / 2 = i / 2 + 1 by omega, List.getD_cons_succ]
set_option maxRecDepth 100000 in
/-- two rows whose halves are the same are the same -/
theorem nib_ext (a b : List UInt8) (hl : a.length = b.length) (h : ∀ i, i < 2 * a.length → nib a i = nib b i) : a = b := by
  apply List.ext_getElem hl
  intro i h1 h2
  have e1 := h (2 * i) (by omega)
  have e2 := h (2 * i + 1) (by omega)
  unfold nib at e1 e2
  rw [if_pos (by omega), if_pos (by omega), show 2 * i / 2 = i by omega, getD_at a i h1, getD_at b i h2] at e1
  rw [if_neg (by omega), if_neg (by omega), show (2 * i + 1) / 2 = i by omega, getD_at a i h1, getD_at b i h2] at e2
  apply UInt8.toNat_inj.1
  omega
set_option maxRecDepth 100000 in
theorem nib_packL (g : UInt8 → Option Nat) (hg : Worth g) (l : List UInt8) (i : Nat) (h : i < 2 * ((l.length + 1) / 2)) : nib (packL g l) i = hvF g l i := by
  have hlt := hvF_lt g hg l
  unfold nib
  rw [getD_at _ _ (by rw [packL_length]; omega), packL_get, pkAt_nat _ hlt]
  have a := hlt (2 * (i / 2))
  have b := hlt (2 * (i / 2) + 1)
  split
  · rw [show (16 * hvF g l (2 * (i / 2)) + hvF g l (2 * (i / 2) + 1)) / 16 = hvF g l (2 * (i / 2)) by omega, show 2 * (i / 2) = i by omega]
  · rw [show (16 * hvF g l (2 * (i / 2)) + hvF g l (2 * (i / 2) + 1)) % 16 = hvF g l (2 * (i / 2) + 1) by omega, show 2 * (i / 2) + 1 = i by omega]
/-- g undoes sgn -/
def Undoes (g : UInt8 → Option Nat) : Prop := ∀ c v, g c = some v → sgn v = c
set_option maxRecDepth 100000 in
theorem gFig_u : Undoes gFig := by
  intro c v h
  unfold gFig at h
  split at h <;> simp at h
  subst h
  unfold sgn
  rw [if_pos (by omega)]
  apply UInt8.toNat_inj.1
  have := c.toNat_lt
  rw [UInt8.toNat_ofNat']
  omega
set_option maxRecDepth 100000 in
theorem gHalf_u : Undoes gHalf := by
  intro c v h
  unfold gHalf at h
  split at h
  · simp at h
    subst h
    unfold sgn
    rw [if_neg (by omega)]
    apply UInt8.toNat_inj.1
    rw [UInt8.toNat_ofNat']
    omega
  · exact gFig_u c v h
set_option maxRecDepth 100000 in
theorem sgn_nat (v : Nat) (h : v < 16) : (sgn v).toNat = if v < 10 then 48 + v else 87 + v := by
  unfold sgn
  split <;> rw [UInt8.toNat_ofNat'] <;> omega
set_option maxRecDepth 100000 in
theorem gHalf_sgn (v : Nat) (h : v < 16) : gHalf (sgn v) = some v := by
  have e := sgn_nat v h
  unfold gHalf gFig
  by_cases h10 : v < 10
  · rw [if_pos h10] at e
    rw [e, if_neg (by omega), if_pos (by omega)]; congr 1; omega
  · rw [if_neg h10] at e
    rw [e, if_pos (by omega)]; congr 1; omega
set_option maxRecDepth 100000 in
theorem gFig_sgn (v : Nat) (h : v < 10) : gFig (sgn v) = some v := by
  have e := sgn_nat v (by omega)
  rw [if_pos h] at e
  unfold gFig
  rw [e, if_pos (by omega)]
  congr 1; omega
set_option maxRecDepth 100000 in
theorem okL_fig (l : List UInt8) : okL gFig l = allFig l := by
  unfold okL allFig
  congr 1
  funext c
  unfold gFig isFig
  split
  · simp; omega
  · rename_i h
    rw [Bool.eq_iff_iff]
    simp
    omega
set_option maxRecDepth 100000 in
theorem okL_at (g : UInt8 → Option Nat) (l : List UInt8) (h : okL g l = true) (k : Nat) (hk : k < l.length) : ∃ v, g l[k] = some v := by
  unfold okL at h
  rw [List.all_eq_true] at h
  exact Option.isSome_iff_exists.1 (h _ (List.getElem_mem hk))

set_option maxRecDepth 100000 in
/-- Hex behind packing: the signs, a nought ahead of an odd count -/
theorem hx_packL (g : UInt8 → Option Nat) (hg : Worth g) (hu : Undoes g) (l : List UInt8) (h : okL g l = true) : hx (packL g l) = (if l.length % 2 = 1 then [48] else []) ++ l := by
  have hlen : (hx (packL g l)).length = ((if l.length % 2 = 1 then [48] else []) ++ l).length := by
    rw [hx_length, packL_length, List.length_append]
    split <;> simp <;> omega
  apply List.ext_getElem hlen
  intro i h1 h2
  rw [hx_get, nib_packL g hg l i (by rw [hx_length, packL_length] at h1; exact h1)]
  unfold hvF
  rcases Nat.mod_two_eq_zero_or_one l.length with h0 | h0
  · simp only [h0] at h2 ⊢
    simp at h2
    obtain ⟨v, hv⟩ := okL_at g l h i h2
    rw [if_neg (by omega), Nat.sub_zero, getD_at l i h2, hv]
    simp [hu _ _ hv]
  · simp only [h0] at h2 ⊢
    simp at h2
    match i, h2 with
    | 0, _ => rfl
    | i + 1, h2 =>
      have hi : i < l.length := by omega
      obtain ⟨v, hv⟩ := okL_at g l h i hi
      rw [if_neg (by omega), Nat.add_sub_cancel, getD_at l i hi, hv]
      simp [hu _ _ hv]
set_option maxRecDepth 100000 in
/-- packing behind Hex -/
theorem packL_hx (g : UInt8 → Option Nat) (hg : Worth g) (l : List UInt8) (h : ∀ i, i < 2 * l.length → g (sgn (nib l i)) = some (nib l i)) : packL g (hx l) = l := by
  have hlen : (packL g (hx l)).length = l.length := by rw [packL_length, hx_length]; omega
  apply nib_ext _ _ hlen
  intro i hi
  rw [hlen] at hi
  rw [nib_packL g hg _ i (by rw [hx_length]; omega)]
  unfold hvF
  rw [hx_length, show 2 * l.length % 2 = 0 by omega, if_neg (by omega), Nat.sub_zero, getD_at _ _ (by rw [hx_length]; exact hi), hx_get, h i hi]
  rfl
set_option maxRecDepth 100000 in
/-- packing an odd count: as with a nought ahead -/
theorem packL_odd (l : List UInt8) (h : l.length % 2 = 1) : packL gFig (48 :: l) = packL gFig l := by
  have hlen : (packL gFig (48 :: l)).length = (packL gFig l).length := by rw [packL_length, packL_length, List.length_cons]; omega
  apply nib_ext _ _ hlen
  intro i hi
  rw [packL_length, List.length_cons] at hi
  rw [nib_packL _ gFig_w _ i (by rw [List.length_cons]; omega), nib_packL _ gFig_w _ i (by omega)]
  unfold hvF
  rw [List.length_cons, show (l.length + 1) % 2 = 0 by omega, h]
  match i with
  | 0 => rfl
  | i + 1 => rw [if_neg (by omega), if_neg (by omega), Nat.sub_zero, List.getD_cons_succ, Nat.add_sub_cancel]
set_option maxRecDepth 100000 in
theorem packL_append (s t : List UInt8) (hs : s.length % 2 = 0) (ht : t.length % 2 = 0) : packL gFig (s ++ t) = packL gFig s ++ packL gFig t := by
  have hlen : (packL gFig (s ++ t)).length = (packL gFig s ++ packL gFig t).length := by rw [List.length_append, packL_length, packL_length, packL_length, List.length_append]; omega
  apply List.ext_getElem hlen
  intro i h1 h2
  rw [packL_get]
  rw [packL_length, List.length_append] at h1
  by_cases hi : i < s.length / 2
  · rw [List.getElem_append_left (by rw [packL_length]; omega), packL_get]
    unfold pkAt hvF
    rw [List.length_append, show (s.length + t.length) % 2 = 0 by omega, hs, if_neg (by omega), if_neg (by omega), if_neg (by omega), if_neg (by omega)]
    simp only [Nat.sub_zero]
    rw [getD_at _ _ (by rw [List.length_append]; omega), getD_at _ _ (by rw [List.length_append]; omega), getD_at _ _ (by omega), getD_at _ _ (by omega), List.getElem_append_left (by omega), List.getElem_append_left (by omega)]
  · have e : (packL gFig s).length = s.length / 2 := by rw [packL_length]; omega
    rw [List.getElem_append_right (by omega), packL_get]
    unfold pkAt hvF
    rw [e, List.length_append, show (s.length + t.length) % 2 = 0 by omega, ht, if_neg (by omega), if_neg (by omega), if_neg (by omega), if_neg (by omega)]
    simp only [Nat.sub_zero]
    rw [getD_at _ _ (by rw [List.length_append]; omega), getD_at _ _ (by rw [List.length_append]; omega), getD_at _ _ (by omega), getD_at _ _ (by omega), List.getElem_append_right (by omega), List.getElem_append_right (by omega)]
    congr 4 <;> congr 3 <;> omega
set_option maxRecDepth 100000 in
theorem packL_seven (s : List UInt8) (hs : s.length % 2 = 0) : packL gFig (55 :: s) = 7 :: packL gFig s := by
  have hlen : (packL gFig (55 :: s)).length = (7 :: packL gFig s).length := by rw [List.length_cons, packL_length, packL_length, List.length_cons]; omega
  apply List.ext_getElem hlen
  intro i h1 h2
  rw [packL_get]
  match i, h1, h2 with
  | 0, _, _ =>
    unfold pkAt hvF
    rw [List.length_cons, show (s.length + 1) % 2 = 1 by omega]
    rfl
  | i + 1, h1, h2 =>
    rw [packL_length, List.length_cons] at h1
    rw [List.getElem_cons_succ, packL_get]
    unfold pkAt hvF
    rw [List.length_cons, show (s.length + 1) % 2 = 1 by omega, hs, if_neg (by omega), if_neg (by omega), if_neg (by omega), if_neg (by omega)]
    rw [show 2 * (i + 1) - 1 = 2 * i + 1 by omega, show 2 * (i + 1) + 1 - 1 = (2 * i + 1) + 1 by omega, List.getD_cons_succ, List.getD_cons_succ]
    rfl
end Go.Proofs.Ytjkkceecagbjjaa
/- Envelopes, plain. -/

namespace Go.Proofs.Ytjkkceecagbjjaa
open Go.RowKit

structure Ev where
  kind : Int
  dir : Int
  e0 : Int
  e1 : Int
  gen : Int
  seq : Int
  body : List UInt8
  tag : List UInt8
def ev0 : Ev := ⟨0, 0, 0, 0, 0, 0, [], []⟩
set_option maxRecDepth 100000 in
theorem Ev.ext' {a b : Ev} (h1 : a.kind = b.kind) (h2 : a.dir = b.dir) (h3 : a.e0 = b.e0) (h4 : a.e1 = b.e1) (h5 : a.gen = b.gen) (h6 : a.seq = b.seq) (h7 : a.body = b.body) (h8 : a.tag = b.tag) : a = b := by
  cases a; cases b; simp only at h1 h2 h3 h4 h5 h6 h7 h8; subst h1 h2 h3 h4 h5 h6 h7 h8; rfl
instance : DecidableEq Ev := fun a b => decidable_of_iff (a.kind = b.kind ∧ a.dir = b.dir ∧ a.e0 = b.e0 ∧ a.e1 = b.e1 ∧ a.gen = b.gen ∧ a.seq = b.seq ∧ a.body = b.body ∧ a.tag = b.tag)
  ⟨fun k => Ev.ext' k.1 k.2.1 k.2.2.1 k.2.2.2.1 k.2.2.2.2.1 k.2.2.2.2.2.1 k.2.2.2.2.2.2.1 k.2.2.2.2.2.2.2, fun k => by subst k; exact ⟨rfl, rfl, rfl, rfl, rfl, rfl, rfl, rfl⟩⟩
/-- a number of a message, or of an epoch -/
def NumE (n : Int) : Prop := 0 ≤ n ∧ n ≤ 4611686018427387904
instance (n : Int) : Decidable (NumE n) := by unfold NumE; infer_instance
def PartsE (e : Ev) : Prop := NumE e.e0 ∧ NumE e.e1 ∧ NumE e.seq ∧ (e.kind = 1 ∨ e.kind = 2) ∧ (e.dir = 0 ∨ e.dir = 1) ∧ 0 ≤ e.gen ∧ e.gen ≤ 2147483647 ∧ 1 ≤ e.body.length ∧ e.body.length ≤ 900
instance (e : Ev) : Decidable (PartsE e) := by unfold PartsE; infer_instance
def RightE (e : Ev) : Prop := PartsE e ∧ e.tag.length = 16
instance (e : Ev) : Decidable (RightE e) := by unfold RightE; infer_instance
def bgE (n : Int) (w : Nat) : List UInt8 := dgL 0 256 n.toNat w
set_option maxRecDepth 100000 in
theorem bgE_len (n : Int) (w : Nat) : (bgE n w).length = w := dgL_length _ _ _ _
/-- what stands ahead of the body -/
def headE (e : Ev) : List UInt8 := bgE e.kind 1 ++ (bgE e.dir 1 ++ (bgE e.e0 8 ++ (bgE e.e1 8 ++ (bgE e.gen 4 ++ bgE e.seq 8))))
/-- what is tagged -/
def inL (e : Ev) : List UInt8 := headE e ++ e.body
set_option maxRecDepth 100000 in
theorem headE_len (e : Ev) : (headE e).length = 30 := by unfold headE; simp only [List.length_append, bgE_len]
set_option maxRecDepth 100000 in
theorem inL_len (e : Ev) : (inL e).length = 30 + e.body.length := by unfold inL; rw [List.length_append, headE_len]
def inputE (e : Ev) : List UInt8 × Int := if PartsE e then (inL e, 0) else ([], 1)
def writeE (e : Ev) : List UInt8 × Int := if RightE e then (inL e ++ e.tag, 0) else ([], 1)
/-- the number at a place; below 0: it is too great -/
def tkE (b : List UInt8) (p w : Nat) : Int := if numL ((b.drop p).take w) ≤ 9223372036854775807 then (numL ((b.drop p).take w) : Int) else -1
def envOf (b : List UInt8) : Ev := ⟨tkE b 0 1, tkE b 1 1, tkE b 2 8, tkE b 10 8, tkE b 18 4, tkE b 22 8, (b.drop 30).take (b.length - 46), b.drop (b.length - 16)⟩
def readE (b : List UInt8) : Ev × Int := if b.length < 47 then (ev0, 3) else if 946 < b.length then (ev0, 4) else if RightE (envOf b) then (envOf b, 0) else (ev0, 2)

set_option maxRecDepth 100000 in
theorem piece {a p r : List UInt8} {i w : Nat} (ha : a.length = i) (hp : p.length = w) : ((a ++ (p ++ r)).drop i).take w = p := by
  subst ha hp
  rw [List.drop_left, List.take_left]
set_option maxRecDepth 100000 in
theorem tk_piece {a r : List UInt8} {n : Int} {i w : Nat} (ha : a.length = i) (h0 : 0 ≤ n) (h1 : n.toNat < 256 ^ w) (h2 : n ≤ 9223372036854775807) : tkE (a ++ (bgE n w ++ r)) i w = n := by
  unfold tkE
  rw [piece ha (bgE_len n w)]
  unfold bgE
  rw [numL_dgL, Nat.mod_eq_of_lt h1, if_pos (by omega)]
  omega
set_option maxRecDepth 100000 in
/-- what stands ahead of the body is read -/
theorem env_of {e : Ev} (h : PartsE e) (ht : e.tag.length = 16) : envOf (inL e ++ e.tag) = e := by
  obtain ⟨⟨a1, a2⟩, ⟨b1, b2⟩, ⟨c1, c2⟩, k, d, g1, g2, l1, l2⟩ := h
  have hlen : (inL e ++ e.tag).length = 46 + e.body.length := by rw [List.length_append, inL_len, ht]; omega
  have p8 : (256 : Nat) ^ 8 = 18446744073709551616 := rfl
  have p4 : (256 : Nat) ^ 4 = 4294967296 := rfl
  have p1 : (256 : Nat) ^ 1 = 256 := rfl
  apply Ev.ext'
  · show tkE (inL e ++ e.tag) 0 1 = _
    unfold inL headE
    simp only [List.append_assoc]
    exact tk_piece (a := []) rfl (by omega) (by omega) (by omega)
  · show tkE (inL e ++ e.tag) 1 1 = _
    unfold inL headE
    simp only [List.append_assoc]
    exact tk_piece (a := bgE e.kind 1) (bgE_len _ _) (by omega) (by omega) (by omega)
  · show tkE (inL e ++ e.tag) 2 8 = _
    unfold inL headE
    simp only [List.append_assoc]
    rw [← List.append_assoc (bgE e.kind 1)]
    exact tk_piece (by simp only [List.length_append, bgE_len]) (by omega) (by omega) (by omega)
  · show tkE (inL e ++ e.tag) 10 8 = _
    unfold inL headE
    simp only [List.append_assoc]
    rw [← List.append_assoc (bgE e.dir 1), ← List.append_assoc (bgE e.kind 1)]
    exact tk_piece (by simp only [List.length_append, bgE_len]) (by omega) (by omega) (by omega)
  · show tkE (inL e ++ e.tag) 18 4 = _
    unfold inL headE
    simp only [List.append_assoc]
    rw [← List.append_assoc (bgE e.e0 8), ← List.append_assoc (bgE e.dir 1), ← List.append_assoc (bgE e.kind 1)]
    exact tk_piece (by simp only [List.length_append, bgE_len]) (by omega) (by omega) (by omega)
  · show tkE (inL e ++ e.tag) 22 8 = _
    unfold inL headE
    simp only [List.append_assoc]
    rw [← List.append_assoc (bgE e.e1 8), ← List.append_assoc (bgE e.e0 8), ← List.append_assoc (bgE e.dir 1), ← List.append_assoc (bgE e.kind 1)]
    exact tk_piece (by simp only [List.length_append, bgE_len]) (by omega) (by omega) (by omega)
  · show ((inL e ++ e.tag).drop 30).take ((inL e ++ e.tag).length - 46) = _
    rw [hlen]
    unfold inL
    rw [List.append_assoc]
    exact piece (headE_len e) (by omega)
  · show (inL e ++ e.tag).drop ((inL e ++ e.tag).length - 16) = _
    rw [hlen, List.drop_left' (by rw [inL_len]; omega)]
set_option maxRecDepth 100000 in
theorem write_len {e : Ev} (h : RightE e) : (inL e ++ e.tag).length = 46 + e.body.length := by rw [List.length_append, inL_len, h.2]; omega
set_option maxRecDepth 100000 in
theorem read_write {e : Ev} (h : RightE e) : readE (inL e ++ e.tag) = (e, 0) := by
  have hl := write_len h
  obtain ⟨h1, h2⟩ := h
  have h3 := h1.2.2.2.2.2.2.2
  unfold readE
  rw [if_neg (by omega), if_neg (by omega), env_of h1 h2, if_pos ⟨h1, h2⟩]
set_option maxRecDepth 100000 in
/-- a number that was taken is laid so -/
theorem bg_tk {b : List UInt8} {i w : Nat} (h : i + w ≤ b.length) (h0 : 0 ≤ tkE b i w) : bgE (tkE b i w) w = (b.drop i).take w := by
  have hl : ((b.drop i).take w).length = w := by rw [List.length_take, List.length_drop]; omega
  unfold tkE at h0 ⊢
  split at h0
  · rename_i hk
    rw [if_pos hk]
    unfold bgE
    rw [Int.toNat_natCast]
    have := dgL_num ((b.drop i).take w)
    rwa [hl] at this
  · omega
set_option maxRecDepth 100000 in
theorem take_more (b : List UInt8) (i w : Nat) : b.take i ++ (b.drop i).take w = b.take (i + w) := (List.take_add).symm
set_option maxRecDepth 100000 in
theorem write_read {b : List UInt8} (h1 : 47 ≤ b.length) (h : RightE (envOf b)) : inL (envOf b) ++ (envOf b).tag = b := by
  obtain ⟨⟨⟨a1, a2⟩, ⟨b1, b2⟩, ⟨c1, c2⟩, k, d, g1, g2, l1, l2⟩, ht⟩ := h
  have e1 : bgE (envOf b).kind 1 = (b.drop 0).take 1 := bg_tk (by omega) (by show 0 ≤ (envOf b).kind; omega)
  have e2 : bgE (envOf b).dir 1 = (b.drop 1).take 1 := bg_tk (by omega) (by show 0 ≤ (envOf b).dir; omega)
  have e3 : bgE (envOf b).e0 8 = (b.drop 2).take 8 := bg_tk (by omega) a1
  have e4 : bgE (envOf b).e1 8 = (b.drop 10).take 8 := bg_tk (by omega) b1
  have e5 : bgE (envOf b).gen 4 = (b.drop 18).take 4 := bg_tk (by omega) g1
  have e6 : bgE (envOf b).seq 8 = (b.drop 22).take 8 := bg_tk (by omega) c1
  unfold inL headE
  rw [e1, e2, e3, e4, e5, e6]
  show _ ++ (b.drop 30).take (b.length - 46) ++ b.drop (b.length - 16) = b
  have t1 : b.take 1 ++ (b.drop 1).take 1 = b.take 2 := take_more b 1 1
  have t2 : b.take 2 ++ (b.drop 2).take 8 = b.take 10 := take_more b 2 8
  have t3 : b.take 10 ++ (b.drop 10).take 8 = b.take 18 := take_more b 10 8
  have t4 : b.take 18 ++ (b.drop 18).take 4 = b.take 22 := take_more b 18 4
  have t5 : b.take 22 ++ (b.drop 22).take 8 = b.take 30 := take_more b 22 8
  have t6 : b.take 30 ++ (b.drop 30).take (b.length - 46) = b.take (30 + (b.length - 46)) := take_more b 30 _
  simp only [← List.append_assoc]
  rw [List.drop_zero, t1, t2, t3, t4, t5, t6, show 30 + (b.length - 46) = b.length - 16 by omega, List.take_append_drop]
set_option maxRecDepth 100000 in
/-- what is tagged tells all but the tag -/
theorem in_apart {a b : Ev} (ha : PartsE a) (hb : PartsE b) (h : inL a = inL b) (t : List UInt8) (ht : t.length = 16) : { a with tag := t } = { b with tag := t } := by
  have h1 := env_of (e := { a with tag := t }) ha ht
  have h2 := env_of (e := { b with tag := t }) hb ht
  rw [← h1, ← h2]
  show envOf (inL a ++ t) = envOf (inL b ++ t)
  rw [h]
set_option maxRecDepth 100000 in
/-- cut off, it is another one's, or none's -/
theorem cut_read {e : Ev} (h : RightE e) {k : Nat} (hk : k < (inL e ++ e.tag).length) (h47 : 47 ≤ k) :
    (readE ((inL e ++ e.tag).take k)).2 = 2 ∨ ((readE ((inL e ++ e.tag).take k)).2 = 0 ∧ (readE ((inL e ++ e.tag).take k)).1 ≠ e ∧ (readE ((inL e ++ e.tag).take k)).1.body.length = k - 46) := by
  have hw := write_len h
  have h3 := h.1.2.2.2.2.2.2.2
  generalize hb : (inL e ++ e.tag).take k = b
  have hl : b.length = k := by rw [← hb, List.length_take]; omega
  unfold readE
  rw [if_neg (by omega), if_neg (by omega)]
  by_cases hr : RightE (envOf b)
  · rw [if_pos hr]
    have hbl : (envOf b).body.length = k - 46 := by
      show ((b.drop 30).take (b.length - 46)).length = _
      rw [List.length_take, List.length_drop, hl]
      omega
    refine .inr ⟨rfl, fun he => ?_, hbl⟩
    have he' : envOf b = e := he
    rw [he'] at hbl
    omega
  · rw [if_neg hr]
    exact .inl rfl
set_option maxRecDepth 100000 in
/-- one byte of it is another one -/
theorem byte_read {e : Ev} (h : RightE e) {x : List UInt8} (hx : x.length = (inL e ++ e.tag).length) {i : Nat} (hi : i < x.length) (hne : x[i]? ≠ (inL e ++ e.tag)[i]?) (hsame : ∀ j, j ≠ i → x[j]? = (inL e ++ e.tag)[j]?) :
    ((readE x).2 = 2 ∧ i < 30) ∨ ((readE x).2 = 0 ∧ RightE (readE x).1 ∧ (inL (readE x).1 = inL e ↔ (inL e).length ≤ i) ∧ ((readE x).1.tag = e.tag ↔ i < (inL e).length)) := by
  have hw := write_len h
  have h3 := h.1.2.2.2.2.2.2.2
  have hin := inL_len e
  unfold readE
  rw [if_neg (by omega), if_neg (by omega)]
  have hside : ∀ p w, i < p ∨ p + w ≤ i → (x.drop p).take w = ((inL e ++ e.tag).drop p).take w := fun p w hq => by
    apply List.ext_getElem?
    intro j
    rw [List.getElem?_take, List.getElem?_take]
    split
    · rw [List.getElem?_drop, List.getElem?_drop]
      exact hsame _ (by omega)
    · rfl
  have ht : x.drop (x.length - 16) = (envOf x).tag := rfl
  by_cases hr : RightE (envOf x)
  · rw [if_pos hr]
    refine .inr ⟨rfl, hr, ?_, ?_⟩
    · have hwr := write_read (by omega) hr
      have hxl : (inL (envOf x)).length = (inL e).length := by
        have h5 := congrArg List.length hwr
        rw [List.length_append, hr.2] at h5
        omega
      constructor
      · intro he
        refine Nat.le_of_not_lt (fun hlt => hne ?_)
        rw [← hwr, List.getElem?_append_left (by omega), List.getElem?_append_left hlt, he]
      · intro hle
        have h6 := hside 0 (inL e).length (.inr (by omega))
        rw [List.drop_zero, List.drop_zero, List.take_left] at h6
        rw [← h6]
        conv => rhs; rw [← hwr]
        rw [← hxl, List.take_left]
    · have hwr := write_read (by omega) hr
      have hdt : (envOf x).tag = x.drop (inL e).length := by show x.drop (x.length - 16) = _; congr 1; omega
      constructor
      · intro he
        refine Nat.lt_of_not_le (fun hle => hne ?_)
        have h7 : (x.drop (inL e).length)[i - (inL e).length]? = e.tag[i - (inL e).length]? := by rw [← hdt, he]
        rw [List.getElem?_drop, show (inL e).length + (i - (inL e).length) = i by omega] at h7
        rw [h7, List.getElem?_append_right hle]
      · intro hlt
        rw [hdt]
        apply List.ext_getElem?
        intro j
        rw [List.getElem?_drop, hsame _ (by omega), List.getElem?_append_right (by omega), show (inL e).length + j - (inL e).length = j by omega]
  · rw [if_neg hr]
    refine .inl ⟨rfl, Nat.lt_of_not_le (fun hle => hr ?_)⟩
    have hEo := env_of h.1 h.2
    have g : ∀ p w, p + w ≤ 30 → tkE x p w = tkE (inL e ++ e.tag) p w := fun p w hq => by unfold tkE; rw [hside p w (.inr (by omega))]
    have f : ∀ {α : Type} (q : Ev → α), q (envOf (inL e ++ e.tag)) = q e := fun q => by rw [hEo]
    have hb : (envOf x).body.length = e.body.length := by
      show ((x.drop 30).take (x.length - 46)).length = _
      rw [List.length_take, List.length_drop]; omega
    have htl : (envOf x).tag.length = 16 := by show (x.drop (x.length - 16)).length = _; rw [List.length_drop]; omega
    obtain ⟨a1, a2, a3, a4, a5, a6, a7, a8, a9⟩ := h.1
    refine ⟨⟨?_, ?_, ?_, ?_, ?_, ?_, ?_, by rw [hb]; exact a8, by rw [hb]; exact a9⟩, htl⟩
    · show NumE (tkE x 2 8); rw [g 2 8 (by omega)]; exact (f (fun v => NumE v.e0)).mpr a1
    · show NumE (tkE x 10 8); rw [g 10 8 (by omega)]; exact (f (fun v => NumE v.e1)).mpr a2
    · show NumE (tkE x 22 8); rw [g 22 8 (by omega)]; exact (f (fun v => NumE v.seq)).mpr a3
    · show tkE x 0 1 = 1 ∨ tkE x 0 1 = 2; rw [g 0 1 (by omega)]; exact (f (fun v => v.kind = 1 ∨ v.kind = 2)).mpr a4
    · show tkE x 1 1 = 0 ∨ tkE x 1 1 = 1; rw [g 1 1 (by omega)]; exact (f (fun v => v.dir = 0 ∨ v.dir = 1)).mpr a5
    · show 0 ≤ tkE x 18 4; rw [g 18 4 (by omega)]; exact (f (fun v => 0 ≤ v.gen)).mpr a6
    · show tkE x 18 4 ≤ _; rw [g 18 4 (by omega)]; exact (f (fun v => v.gen ≤ 2147483647)).mpr a7
end Go.Proofs.Ytjkkceecagbjjaa
/- What the laws' frames share: a slice of bytes that came in, read as a list of bytes. -/

namespace Go.Proofs.Ytjkkceecagbjjaa
open Go.ChangeShapes Go.WideShapes Go.ChangeAt Go.RowKit
open Go.ChangeMaps (open_string shut_string)

set_option maxRecDepth 100000 in
theorem own : ownKnob Try.prog.godebug = none := by kernel_rfl
set_option maxRecDepth 100000 in
theorem laidOut : laidOutB Try.prog = true := by kernel_rfl

set_option maxRecDepth 100000 in
theorem i64_bd {a : Int} (h : (Lit.int .i64 a).wf = true) : -9223372036854775808 ≤ a ∧ a ≤ 9223372036854775807 := by
  simpa [Lit.wf, IntKind.min, IntKind.max, IntKind.signed, IntKind.bits] using h
set_option maxRecDepth 100000 in
theorem u8_bd {a : Int} (h : (Lit.int .u8 a).wf = true) : 0 ≤ a ∧ a ≤ 255 := by
  simpa [Lit.wf, IntKind.min, IntKind.max, IntKind.signed, IntKind.bits] using h

set_option maxRecDepth 100000 in
/-- a slice value that reads as data: its bytes -/
theorem bytes_in {H : Type} {enc : TypeId × Value → H} {W : World} {base fuel : Nat} {spare : Nat → Bool} {held : Bool} {a : Option Addr} {n c : Nat} {y : DataW H × List MemPlace}
    (hf : DataW.trod enc Try.prog W base spare held fuel 23 [.slice a n c] = some y) : ∃ l : List UInt8, n = l.length ∧ l.length ≤ c ∧ c ≤ 9223372036854775807 ∧ Rd W W.heap.size a l := by
  rcases open_ints Try.underlying23 Try.underlying5 (by kernel_rfl) hf with ⟨hcs, _⟩ | ⟨x, l, c', zs, hcs, _, hl, hm, hz, _, hcell, hwz⟩
  · simp at hcs
    obtain ⟨rfl, rfl, rfl⟩ := hcs
    exact ⟨[], rfl, by simp, by omega, Rd.nil⟩
  · simp at hcs
    obtain ⟨rfl, rfl, rfl⟩ := hcs
    have hzl : n ≤ zs.length := by
      rw [hz]
      split <;> omega
    refine ⟨(zs.take n).map fun z => UInt8.ofNat z.toNat, by simp; omega, by simp; omega, by simpa [maxLen] using hm, fun h0 => ?_⟩
    have h0' : 0 < n := by simp at h0; omega
    obtain ⟨b, o, spot⟩ := x
    have hc0 := hcell 0 (by omega)
    have hspot : spot = none := by simpa [Addr.add] using World.cell?_spot hc0
    subst hspot
    refine ⟨b, o, rfl, World.block_lt_of_cell? W ⟨b, o, none⟩ (by simpa [Addr.add] using hc0), fun j hj => ?_⟩
    have hj' : j < n := by simp at hj; omega
    have hc := hcell j (by omega)
    rw [Addr.add_lit] at hc
    rw [hc]
    have hzj : j < zs.length := by omega
    have hw := u8_bd (hwz zs[j] (List.getElem_mem hzj))
    have e : zs.getD j 0 = zs[j] := by simp [List.getD, hzj]
    rw [e]
    simp only [List.getElem_map, List.getElem_take, UInt8.toNat_ofNat']
    congr 2
    omega
end Go.Proofs.Ytjkkceecagbjjaa
