
/- dig.Digits, dig.Big -/
import Derived.Test.YtegekmgelnkdbaaVal
namespace Go.Proofs.Ytegekmgelnkdbaa
open Go.RowKit

/-- the figure (of base b, sign z is nought's) at the place p of w places -/
def dgAt (z b n w p : Nat) : UInt8 := UInt8.ofNat (z + n / b ^ (w - 1 - p) % b)
def dgL (z b n w : Nat) : List UInt8 := (List.range w).map (dgAt z b n w)
set_option maxRecDepth 100000 in
theorem dgL_length (z b n w : Nat) : (dgL z b n w).length = w := by simp [dgL]
set_option maxRecDepth 100000 in
theorem dgL_get (z b n w p : Nat) (h : p < (dgL z b n w).length) : (dgL z b n w)[p] = dgAt z b n w p := by simp [dgL]
set_option maxRecDepth 100000 in
theorem dgAt_nat (z b n w p : Nat) (hb : 0 < b) (h : z + b ≤ 256) : (dgAt z b n w p).toNat = z + n / b ^ (w - 1 - p) % b := by
  have := Nat.mod_lt (n / b ^ (w - 1 - p)) hb
  rw [dgAt, UInt8.toNat_ofNat', Nat.mod_eq_of_lt (by omega)]

set_option maxRecDepth 100000 in
theorem idx_dec (q : Int) (h0 : 0 ≤ q) (h1 : q < 10) (W : World) : (Instr.index 9 (.string ⟨#[48, 49, 50, 51, 52, 53, 54, 55, 56, 57, 97, 98, 99, 100, 101, 102]⟩) (.int .i64 q)).run Try.prog W = .ok (.int .u8 (48 + q)) W := by
  obtain ⟨j, rfl⟩ := Int.eq_ofNat_of_zero_le h0
  match j, h1 with
  | 0, _ => rfl | 1, _ => rfl | 2, _ => rfl | 3, _ => rfl | 4, _ => rfl | 5, _ => rfl | 6, _ => rfl | 7, _ => rfl
  | 8, _ => rfl | 9, _ => rfl
  | j + 10, h => exact absurd h (by omega)

def rowD (z b n w m p : Nat) : Value := if p < m then .int .u8 0 else .int .u8 ((dgAt z b n w p).toNat : Int)
set_option maxRecDepth 100000 in
theorem rowD_step (z b n w m p : Nat) (v : Int) (hv : v = ((dgAt z b n w m).toNat : Int)) : (if p = m then Value.int .u8 v else rowD z b n w (m + 1) p) = rowD z b n w m p := by
  unfold rowD
  by_cases h : p = m
  · subst h; simp [hv]
  · rw [if_neg h]
    by_cases h2 : p < m
    · rw [if_pos h2, if_pos (by omega)]
    · rw [if_neg h2, if_neg (by omega)]

def digitsV (n w : Nat) : Value := if n < 10 ^ w then .tuple #[.string ⟨(dgL 48 10 n w).toArray⟩, .int .i64 0] else .tuple #[.string ⟨#[]⟩, .int .i64 1]

/-- what Big answers: the bytes, or none -/
def BigR (n w : Nat) (W' : World) (e : Ending) : Prop :=
  if n < 256 ^ w then ∃ v, e = .returned (.tuple #[v, .int .i64 0]) ∧ Sl W' v (dgL 0 256 n w) else e = .returned (.tuple #[.slice none 0 0, .int .i64 1])

end Go.Proofs.Ytegekmgelnkdbaa
