
/- dig.Hex -/
import Derived.Test.YtegekmgelnkdbaaBytes
import Derived.Deep.RegionLaw
import Derived.Deep.DeepMust
import Derived.Deep.RegionHeld3
import Derived.StillTailTactics
namespace Go.Proofs.Ytegekmgelnkdbaa
open Go.RowKit

def sgn (n : Nat) : UInt8 := if n < 10 then UInt8.ofNat (48 + n) else UInt8.ofNat (87 + n)
def hx (l : List UInt8) : List UInt8 := l.flatMap fun b => [sgn (b.toNat / 16), sgn (b.toNat % 16)]
set_option maxRecDepth 100000 in
theorem hx_length (l : List UInt8) : (hx l).length = 2 * l.length := by
  induction l with
  | nil => rfl
  | cons a l ih => simp only [hx, List.flatMap_cons, List.length_append, List.length_cons, List.length_nil] at ih ⊢; omega
set_option maxRecDepth 100000 in
theorem take_snoc (l : List UInt8) (k : Nat) (h : k < l.length) : l.take (k + 1) = l.take k ++ [l[k]] := by
  rw [List.take_succ_eq_append_getElem h]
set_option maxRecDepth 100000 in
theorem hx_snoc (l : List UInt8) (c : UInt8) : hx (l ++ [c]) = hx l ++ [sgn (c.toNat / 16), sgn (c.toNat % 16)] := by
  simp [hx]

set_option maxRecDepth 100000 in
theorem idx_signs (q : Int) (j : Nat) (hq : q = j) (h : j < 16) (W : World) : (Instr.index 9 (.string ⟨#[48, 49, 50, 51, 52, 53, 54, 55, 56, 57, 97, 98, 99, 100, 101, 102]⟩) (.int .u8 q)).run Try.prog W = .ok (.int .u8 ((sgn j).toNat : Int)) W := by
  subst hq
  match j, h with
  | 0, _ => rfl | 1, _ => rfl | 2, _ => rfl | 3, _ => rfl | 4, _ => rfl | 5, _ => rfl | 6, _ => rfl | 7, _ => rfl
  | 8, _ => rfl | 9, _ => rfl | 10, _ => rfl | 11, _ => rfl | 12, _ => rfl | 13, _ => rfl | 14, _ => rfl | 15, _ => rfl
  | j + 16, h => exact absurd h (by omega)
set_option maxRecDepth 100000 in
theorem idx_hi (b : UInt8) : ∀ W, (Instr.index 9 (.string ⟨#[48, 49, 50, 51, 52, 53, 54, 55, 56, 57, 97, 98, 99, 100, 101, 102]⟩) (.int .u8 ((b.toNat : Int) / 16))).run Try.prog W = .ok (.int .u8 ((sgn (b.toNat / 16)).toNat : Int)) W :=
  fun W => idx_signs _ (b.toNat / 16) (by omega) (by have := b.toNat_lt; omega) W
set_option maxRecDepth 100000 in
theorem idx_lo (b : UInt8) : ∀ W, (Instr.index 9 (.string ⟨#[48, 49, 50, 51, 52, 53, 54, 55, 56, 57, 97, 98, 99, 100, 101, 102]⟩) (.int .u8 ((b.toNat : Int) % 16))).run Try.prog W = .ok (.int .u8 ((sgn (b.toNat % 16)).toNat : Int)) W :=
  fun W => idx_signs _ (b.toNat % 16) (by omega) (by omega) W

end Go.Proofs.Ytegekmgelnkdbaa
