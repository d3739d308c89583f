
/- dig.TakeBig -/
import Derived.Test.YtegekmgelnkdbaaNum
namespace Go.Proofs.Ytegekmgelnkdbaa
open Go.RowKit

def numL (l : List UInt8) : Nat := l.foldl (fun n c => 256 * n + c.toNat) 0
set_option maxRecDepth 100000 in
theorem numL_snoc (l : List UInt8) (c : UInt8) : numL (l ++ [c]) = 256 * numL l + c.toNat := by simp [numL]
set_option maxRecDepth 100000 in
theorem numL_lt (l : List UInt8) : numL l < 256 ^ l.length := by
  induction l using snoc_ind with
  | h0 => simp [numL]
  | h1 l a ih =>
    have := a.toNat_lt
    rw [numL_snoc, List.length_append, List.length_cons, List.length_nil, Nat.pow_add]
    omega

def takeBigV (l : List UInt8) (p w : Nat) : Value :=
  if numL ((l.drop p).take w) ≤ 9223372036854775807 then .tuple #[.int .i64 (numL ((l.drop p).take w)), .int .i64 ((p : Int) + w), .int .i64 0] else .tuple #[.int .i64 0, .int .i64 0, .int .i64 2]

set_option maxRecDepth 100000 in
theorem or_byte (n x : Nat) (hn : n < 72057594037927936) (hx : x < 256) : bits BinOp.or IntKind.u64 ((n : Int) * 256) (x : Int) = ((256 * n + x : Nat) : Int) := by
  have h := bits_or_u64_nat (n * 256) x (by omega) (by omega)
  have e : n * 256 ||| x = n * 256 + x := by
    have := Nat.shiftLeft_add_eq_or_of_lt (show x < 2 ^ 8 by omega) n
    rw [Nat.shiftLeft_eq] at this
    exact this.symm
  rw [e] at h
  rw [show ((256 * n + x : Nat) : Int) = ((n * 256 + x : Nat) : Int) by omega, ← h]
  congr 1

end Go.Proofs.Ytegekmgelnkdbaa
