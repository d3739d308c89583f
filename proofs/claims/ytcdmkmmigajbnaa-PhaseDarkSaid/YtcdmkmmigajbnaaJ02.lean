
/- Same, dig.Value -/
import Derived.Test.YtcdmkmmigajbnaaJ01
namespace Go.Proofs.Ytcdmkmmigajbnaa
open Go.RowKit

def isFig (c : UInt8) : Bool := decide (48 ≤ c.toNat) && decide (c.toNat ≤ 57)
def allFig (l : List UInt8) : Bool := l.all isFig
def val (l : List UInt8) : Nat := l.foldl (fun n c => 10 * n + (c.toNat - 48)) 0
set_option maxRecDepth 100000 in
theorem val_snoc (l : List UInt8) (c : UInt8) : val (l ++ [c]) = 10 * val l + (c.toNat - 48) := by simp [val]
set_option maxRecDepth 100000 in
theorem isFig_iff (c : UInt8) : isFig c = true ↔ 48 ≤ c.toNat ∧ c.toNat ≤ 57 := by simp [isFig]
set_option maxRecDepth 100000 in
theorem snoc_ind {α : Type} {motive : List α → Prop} (h0 : motive []) (h1 : ∀ l a, motive l → motive (l ++ [a])) (l : List α) : motive l := by
  have h : ∀ r : List α, motive r.reverse := by
    intro r
    induction r with
    | nil => exact h0
    | cons a r ih => rw [List.reverse_cons]; exact h1 _ _ ih
  have := h l.reverse
  rwa [List.reverse_reverse] at this
set_option maxRecDepth 100000 in
theorem val_lt (l : List UInt8) (h : allFig l = true) : val l < 10 ^ l.length := by
  induction l using snoc_ind with
  | h0 => simp [val]
  | h1 l a ih =>
    simp only [allFig, List.all_append, List.all_cons, List.all_nil, Bool.and_true, Bool.and_eq_true] at h
    have h2 := (isFig_iff a).1 h.2
    have h3 := ih h.1
    rw [val_snoc, List.length_append, List.length_cons, List.length_nil, Nat.pow_add]
    omega
def valR (l : List UInt8) : Nat × Nat := if 1 ≤ l.length ∧ l.length ≤ 18 ∧ allFig l = true then (val l, 0) else (0, 2)

set_option maxRecDepth 100000 in
theorem bytes_len (s : ByteArray) : s.data.toList.length = s.size := by rw [Array.length_toList]; rfl
set_option maxRecDepth 100000 in
theorem bytes_take (s : ByteArray) (k : Nat) (h : k < s.size) : s.data.toList.take (k + 1) = s.data.toList.take k ++ [s[k]] := by
  rw [List.take_succ_eq_append_getElem (by rw [bytes_len]; exact h)]; rfl

set_option maxRecDepth 100000 in
theorem all_snoc (l : List UInt8) (c : UInt8) : allFig (l ++ [c]) = (allFig l && isFig c) := by simp [allFig]
set_option maxRecDepth 100000 in
theorem all_not (l : List UInt8) (k : Nat) (h : k < l.length) (hn : isFig l[k] = false) : allFig l = false := by
  unfold allFig
  rw [List.all_eq_false]
  exact ⟨l[k], List.getElem_mem h, by simp [hn]⟩
set_option maxRecDepth 100000 in
theorem get_bytes (s : ByteArray) (k : Nat) (h : k < s.size) : s.data.toList[k]'(by rw [bytes_len]; exact h) = s[k] := rfl
set_option maxRecDepth 100000 in
/-- the rune that stands at a place where no figure stands is none -/
theorem rune_no (s : ByteArray) (k : Nat) (h : k < s.size) (hn : isFig s[k] = false) : ((Utf8.decode s k).1 : Int) < 48 ∨ 57 < ((Utf8.decode s k).1 : Int) := by
  by_cases ha : (s[k]'h).toNat < 128
  · rw [decode_ascii s k h ha]
    have : ¬ (48 ≤ s[k].toNat ∧ s[k].toNat ≤ 57) := by rw [← isFig_iff, hn]; simp
    simp only
    omega
  · have := (decode_high s k h (by omega)).1
    omega
set_option maxRecDepth 100000 in
theorem valR_ok (l : List UInt8) (h1 : 1 ≤ l.length) (h2 : l.length ≤ 18) (h : allFig l = true) : valR l = (val l, 0) := by rw [valR, if_pos ⟨h1, h2, h⟩]
set_option maxRecDepth 100000 in
theorem valR_no (l : List UInt8) (h : allFig l = false) : valR l = (0, 2) := by rw [valR, if_neg (by simp [h])]

end Go.Proofs.Ytcdmkmmigajbnaa
/- dig.Digits, dig.Big -/

namespace Go.Proofs.Ytcdmkmmigajbnaa
open Go.RowKit

/-- the figure (of base b, sign z is nought's) at the place p of w places -/
def dgAt (z b n w p : Nat) : UInt8 := UInt8.ofNat (z + n / b ^ (w - 1 - p) % b)
def dgL (z b n w : Nat) : List UInt8 := (List.range w).map (dgAt z b n w)
set_option maxRecDepth 100000 in
theorem dgL_length (z b n w : Nat) : (dgL z b n w).length = w := by simp [dgL]
set_option maxRecDepth 100000 in
theorem dgL_get (z b n w p : Nat) (h : p < (dgL z b n w).length) : (dgL z b n w)[p] = dgAt z b n w p := by simp [dgL]
set_option maxRecDepth 100000 in
theorem dgAt_nat (z b n w p : Nat) (hb : 0 < b) (h : z + b ≤ 256) : (dgAt z b n w p).toNat = z + n / b ^ (w - 1 - p) % b := by
  have := Nat.mod_lt (n / b ^ (w - 1 - p)) hb
  rw [dgAt, UInt8.toNat_ofNat', Nat.mod_eq_of_lt (by omega)]

set_option maxRecDepth 100000 in
theorem idx_dec (q : Int) (h0 : 0 ≤ q) (h1 : q < 10) (W : World) : (Instr.index 9 (.string ⟨#[48, 49, 50, 51, 52, 53, 54, 55, 56, 57, 97, 98, 99, 100, 101, 102]⟩) (.int .i64 q)).run Try.prog W = .ok (.int .u8 (48 + q)) W := by
  obtain ⟨j, rfl⟩ := Int.eq_ofNat_of_zero_le h0
  match j, h1 with
  | 0, _ => rfl | 1, _ => rfl | 2, _ => rfl | 3, _ => rfl | 4, _ => rfl | 5, _ => rfl | 6, _ => rfl | 7, _ => rfl
  | 8, _ => rfl | 9, _ => rfl
  | j + 10, h => exact absurd h (by omega)

def rowD (z b n w m p : Nat) : Value := if p < m then .int .u8 0 else .int .u8 ((dgAt z b n w p).toNat : Int)
set_option maxRecDepth 100000 in
theorem rowD_step (z b n w m p : Nat) (v : Int) (hv : v = ((dgAt z b n w m).toNat : Int)) : (if p = m then Value.int .u8 v else rowD z b n w (m + 1) p) = rowD z b n w m p := by
  unfold rowD
  by_cases h : p = m
  · subst h; simp [hv]
  · rw [if_neg h]
    by_cases h2 : p < m
    · rw [if_pos h2, if_pos (by omega)]
    · rw [if_neg h2, if_neg (by omega)]

def digitsV (n w : Nat) : Value := if n < 10 ^ w then .tuple #[.string ⟨(dgL 48 10 n w).toArray⟩, .int .i64 0] else .tuple #[.string ⟨#[]⟩, .int .i64 1]

/-- what Big answers: the bytes, or none -/
def BigR (n w : Nat) (W' : World) (e : Ending) : Prop :=
  if n < 256 ^ w then ∃ v, e = .returned (.tuple #[v, .int .i64 0]) ∧ Sl W' v (dgL 0 256 n w) else e = .returned (.tuple #[.slice none 0 0, .int .i64 1])

end Go.Proofs.Ytcdmkmmigajbnaa
/- dig.TakeBig -/

namespace Go.Proofs.Ytcdmkmmigajbnaa
open Go.RowKit

def numL (l : List UInt8) : Nat := l.foldl (fun n c => 256 * n + c.toNat) 0
set_option maxRecDepth 100000 in
theorem numL_snoc (l : List UInt8) (c : UInt8) : numL (l ++ [c]) = 256 * numL l + c.toNat := by simp [numL]
set_option maxRecDepth 100000 in
theorem numL_lt (l : List UInt8) : numL l < 256 ^ l.length := by
  induction l using snoc_ind with
  | h0 => simp [numL]
  | h1 l a ih =>
    have := a.toNat_lt
    rw [numL_snoc, List.length_append, List.length_cons, List.length_nil, Nat.pow_add]
    omega

def takeBigV (l : List UInt8) (p w : Nat) : Value :=
  if numL ((l.drop p).take w) ≤ 9223372036854775807 then .tuple #[.int .i64 (numL ((l.drop p).take w)), .int .i64 ((p : Int) + w), .int .i64 0] else .tuple #[.int .i64 0, .int .i64 0, .int .i64 2]

set_option maxRecDepth 100000 in
theorem or_byte (n x : Nat) (hn : n < 72057594037927936) (hx : x < 256) : bits BinOp.or IntKind.u64 ((n : Int) * 256) (x : Int) = ((256 * n + x : Nat) : Int) := by
  have h := bits_or_u64_nat (n * 256) x (by omega) (by omega)
  have e : n * 256 ||| x = n * 256 + x := by
    have := Nat.shiftLeft_add_eq_or_of_lt (show x < 2 ^ 8 by omega) n
    rw [Nat.shiftLeft_eq] at this
    exact this.symm
  rw [e] at h
  rw [show ((256 * n + x : Nat) : Int) = ((n * 256 + x : Nat) : Int) by omega, ← h]
  congr 1

end Go.Proofs.Ytcdmkmmigajbnaa
