
/- dig.pack, Bcd, Unhex -/
import Derived.Test.YtegekmgelnkdbaaTake
namespace Go.Proofs.Ytegekmgelnkdbaa
open Go.RowKit

set_option maxRecDepth 100000 in
theorem getD_at (l : List UInt8) (k : Nat) (h : k < l.length) : l.getD k 0 = l[k] := by simp [List.getD, h]
def hvF (g : UInt8 → Option Nat) (l : List UInt8) (i : Nat) : Nat := if i < l.length % 2 then 0 else (g (l.getD (i - l.length % 2) 0)).getD 0
def pkAt (hv : Nat → Nat) (p : Nat) : UInt8 := UInt8.ofNat (16 * hv (2 * p) + hv (2 * p + 1))
def packL (g : UInt8 → Option Nat) (l : List UInt8) : List UInt8 := (List.range ((l.length + 1) / 2)).map (pkAt (hvF g l))
def okL (g : UInt8 → Option Nat) (l : List UInt8) : Bool := l.all fun c => (g c).isSome
set_option maxRecDepth 100000 in
theorem packL_length (g : UInt8 → Option Nat) (l : List UInt8) : (packL g l).length = (l.length + 1) / 2 := by simp [packL]
set_option maxRecDepth 100000 in
theorem packL_get (g : UInt8 → Option Nat) (l : List UInt8) (p : Nat) (h : p < (packL g l).length) : (packL g l)[p] = pkAt (hvF g l) p := by simp [packL]
/-- a worth: below 16, of a sign below 128 -/
def Worth (g : UInt8 → Option Nat) : Prop := ∀ c v, g c = some v → v < 16 ∧ c.toNat < 128
set_option maxRecDepth 100000 in
theorem hvF_lt (g : UInt8 → Option Nat) (hg : Worth g) (l : List UInt8) (i : Nat) : hvF g l i < 16 := by
  unfold hvF
  split
  · omega
  · cases h : g (l.getD (i - l.length % 2) 0) with
    | none => simp
    | some v => simpa using (hg _ _ h).1
set_option maxRecDepth 100000 in
theorem pkAt_nat (hv : Nat → Nat) (h : ∀ i, hv i < 16) (p : Nat) : (pkAt hv p).toNat = 16 * hv (2 * p) + hv (2 * p + 1) := by
  have a := h (2 * p)
  have b := h (2 * p + 1)
  rw [pkAt, UInt8.toNat_ofNat', Nat.mod_eq_of_lt (by omega)]

/-- what the cell p holds behind t halves -/
def cellP (hv : Nat → Nat) (t p : Nat) : Nat := if 2 * p + 1 < t then 16 * hv (2 * p) + hv (2 * p + 1) else if 2 * p < t then hv (2 * p) else 0
def rowP (hv : Nat → Nat) (t p : Nat) : Value := .int .u8 (cellP hv t p : Nat)
set_option maxRecDepth 100000 in
theorem cellP_half (hv : Nat → Nat) (h : ∀ i, hv i < 16) (t : Nat) : cellP hv t (t / 2) < 16 := by
  unfold cellP
  rw [if_neg (by omega)]
  split
  · exact h _
  · omega
set_option maxRecDepth 100000 in
theorem cellP_step (hv : Nat → Nat) (t : Nat) : 16 * cellP hv t (t / 2) + hv t = cellP hv (t + 1) (t / 2) := by
  rcases Nat.mod_two_eq_zero_or_one t with h | h
  · have e : 2 * (t / 2) = t := by omega
    unfold cellP
    rw [e, if_neg (by omega), if_neg (by omega), if_neg (by omega), if_pos (by omega)]
    omega
  · have e : 2 * (t / 2) + 1 = t := by omega
    unfold cellP
    rw [e, if_neg (by omega), if_pos (by omega), if_pos (by omega)]
set_option maxRecDepth 100000 in
theorem rowP_step (hv : Nat → Nat) (t p : Nat) (v : Int) (hvv : v = ((16 * cellP hv t (t / 2) + hv t : Nat) : Int)) : (if p = t / 2 then Value.int .u8 v else rowP hv t p) = rowP hv (t + 1) p := by
  by_cases h : p = t / 2
  · rw [if_pos h, hvv, cellP_step, h]; rfl
  · rw [if_neg h]
    unfold rowP cellP
    congr 2
    by_cases a : 2 * p + 1 < t
    · rw [if_pos a, if_pos (by omega)]
    · rw [if_neg a, if_neg (by omega : ¬ 2 * p + 1 < t + 1)]
      by_cases b : 2 * p < t
      · rw [if_pos b, if_pos (by omega)]
      · rw [if_neg b, if_neg (by omega)]
set_option maxRecDepth 100000 in
theorem or_half (x v : Nat) (hx : x < 16) (hv : v < 16) : bits BinOp.or IntKind.u8 ((x : Int) * 16) (v : Int) = ((16 * x + v : Nat) : Int) := by
  have h := u8_or_nat (x * 16) v (by omega) (by omega)
  have e : x * 16 ||| v = x * 16 + v := by
    have := Nat.shiftLeft_add_eq_or_of_lt (show v < 2 ^ 4 by omega) x
    rw [Nat.shiftLeft_eq] at this
    exact this.symm
  rw [e] at h
  rw [show ((16 * x + v : Nat) : Int) = ((x * 16 + v : Nat) : Int) by omega, ← h]
  congr 1

def PackR (g : UInt8 → Option Nat) (l : List UInt8) (W' : World) (e : Ending) : Prop :=
  if okL g l = true then ∃ v, e = .returned (.tuple #[v, .int .i64 0]) ∧ Sl W' v (packL g l) else e = .returned (.tuple #[.slice none 0 0, .int .i64 2])

set_option maxRecDepth 100000 in
theorem okL_no (g : UInt8 → Option Nat) (l : List UInt8) (k : Nat) (h : k < l.length) (hn : g l[k] = none) : okL g l = false := by
  unfold okL
  rw [List.all_eq_false]
  exact ⟨l[k], List.getElem_mem h, by simp [hn]⟩

set_option maxRecDepth 100000 in
/-- the rune that stands at a place where no sign of a worth stands -/
theorem rune_none (g : UInt8 → Option Nat) (hg : Worth g) (s : ByteArray) (k : Nat) (h : k < s.size) (hn : g s[k] = none) : ∀ c : UInt8, (c.toNat : Int) = ((Utf8.decode s k).1 : Int) → g c = none := by
  intro c hc
  cases hgc : g c with
  | none => rfl
  | some v =>
    have hlt := (hg _ _ hgc).2
    by_cases ha : (s[k]'h).toNat < 128
    · rw [decode_ascii s k h ha] at hc
      have : c = s[k] := UInt8.toNat_inj.1 (by simp only at hc; omega)
      rw [this, hn] at hgc
      exact hgc.symm
    · have := (decode_high s k h (by omega)).1
      omega

/-- a figure's worth, and half a byte's -/
def gFig (c : UInt8) : Option Nat := if 48 ≤ c.toNat ∧ c.toNat ≤ 57 then some (c.toNat - 48) else none
def gHalf (c : UInt8) : Option Nat := if 97 ≤ c.toNat ∧ c.toNat ≤ 102 then some (c.toNat - 87) else gFig c
set_option maxRecDepth 100000 in
theorem gFig_w : Worth gFig := by
  intro c v h
  unfold gFig at h
  split at h <;> simp at h
  omega
set_option maxRecDepth 100000 in
theorem gHalf_w : Worth gHalf := by
  intro c v h
  unfold gHalf at h
  split at h
  · simp at h; omega
  · exact gFig_w c v h

end Go.Proofs.Ytegekmgelnkdbaa
