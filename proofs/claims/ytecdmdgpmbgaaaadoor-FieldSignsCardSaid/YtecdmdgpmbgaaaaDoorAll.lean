
/- Each exported function of dig, at all arguments. -/
import Derived.Test.YtecdmdgpmbgaaaaDoorShown
import Derived.Test.YtecdmdgpmbgaaaaDoorPure
namespace Go.Proofs.YtecdmdgpmbgaaaaDoor
open Go.RowKit

def digOk (n w : Int) : Bool := decide (1 ≤ w) && decide (w ≤ 18) && decide (0 ≤ n) && decide (n.toNat < 10 ^ w.toNat)
def digL (n w : Int) : List UInt8 := if digOk n w = true then dgL 48 10 n.toNat w.toNat else []
def digE (n w : Int) : Int := if digOk n w = true then 0 else 1
theorem digits_all (n w : Int) (W : World) (hn : n ≤ 9223372036854775807) :
    Calls Tryd.prog 39 #[.int .i64 n, .int .i64 w] W fun e W' => e = .returned (.tuple #[.string ⟨(digL n w).toArray⟩, .int .i64 (digE n w)]) ∧ Below W.heap.size W W' := by
  unfold digL digE
  by_cases h : w < 1 ∨ 18 < w ∨ n < 0
  · have e : ¬ digOk n w = true := by simp [digOk]; omega
    rw [if_neg e, if_neg e]
    exact digits_bad n w W h
  · obtain ⟨n, rfl⟩ := Int.eq_ofNat_of_zero_le (show 0 ≤ n by omega)
    obtain ⟨w, rfl⟩ := Int.eq_ofNat_of_zero_le (show 0 ≤ w by omega)
    refine (digits_any n w W (by omega) (by omega) (by omega)).mono fun e W' h' => ⟨h'.1.trans ?_, h'.2⟩
    unfold digitsV
    by_cases h2 : n < 10 ^ w
    · have e : digOk n w = true := by simp [digOk]; omega
      rw [if_pos h2, if_pos e, if_pos e]; rfl
    · have e : ¬ digOk n w = true := by simp [digOk]; omega
      rw [if_neg h2, if_neg e, if_neg e]

theorem valR_len (l : List UInt8) (h : l.length < 1 ∨ 18 < l.length) : valR l = (0, 2) := by rw [valR, if_neg (by omega)]
theorem value_all (s : ByteArray) (W : World) (hs : s.size ≤ 9223372036854775807) :
    Calls Tryd.prog 44 #[.string s] W fun e W' => e = .returned (.tuple #[.int .i64 (valR s.data.toList).1, .int .i64 (valR s.data.toList).2]) ∧ Below W.heap.size W W' := by
  by_cases h : s.size < 1 ∨ 18 < s.size
  · refine (value_bad_len s W h hs).mono fun e W' h' => ⟨h'.1.trans ?_, h'.2⟩
    rw [valR_len _ (by rw [bytes_len]; exact h)]
    rfl
  · exact value_any s W (by omega) (by omega)

def bcdL (l : List UInt8) : List UInt8 := if allFig l = true then packL gFig l else []
def bcdE (l : List UInt8) : Int := if allFig l = true then 0 else 2
def bigOk (n w : Int) : Bool := decide (1 ≤ w) && decide (w ≤ 8) && decide (0 ≤ n) && decide (n.toNat < 256 ^ w.toNat)
def bigL (n w : Int) : List UInt8 := if bigOk n w = true then dgL 0 256 n.toNat w.toNat else []
def bigE (n w : Int) : Int := if bigOk n w = true then 0 else 1
def unhexOk (l : List UInt8) : Bool := decide (l.length % 2 = 0) && okL gHalf l
def unhexL (l : List UInt8) : List UInt8 := if unhexOk l = true then packL gHalf l else []
def unhexE (l : List UInt8) : Int := if unhexOk l = true then 0 else 2
def tbS (l : List UInt8) (at_ n : Int) : List UInt8 × Int × Int :=
  if n < 0 ∨ 999 < n ∨ at_ < 0 ∨ l.length < at_ then ([], 0, 1)
  else if l.length < at_.toNat + (n.toNat + 1) / 2 then ([], 0, 3)
  else if tbOk ((l.drop at_.toNat).take ((n.toNat + 1) / 2)) n.toNat = true then ((hx ((l.drop at_.toNat).take ((n.toNat + 1) / 2))).drop (n.toNat % 2), at_ + ((n.toNat + 1) / 2 : Nat), 0)
  else ([], 0, 2)
theorem takeBcd_all (A : Option Addr) (l : List UInt8) (c : Nat) (at_ n : Int) (W : World) (hl : l.length ≤ 1000000) (hc : l.length ≤ c) (hr : Rd W W.heap.size A l) :
    Calls Tryd.prog 43 #[.slice A l.length c, .int .i64 at_, .int .i64 n] W fun e W' => e = .returned (.tuple #[.string ⟨(tbS l at_ n).1.toArray⟩, .int .i64 (tbS l at_ n).2.1, .int .i64 (tbS l at_ n).2.2]) ∧ Below W.heap.size W W' := by
  unfold tbS
  by_cases h : n < 0 ∨ 999 < n ∨ at_ < 0 ∨ (l.length : Int) < at_
  · rw [if_pos h]
    exact (takeBcd_bad A l.length c at_ n W h).mono fun e W' h' => ⟨h'.1, h'.2 ▸ Below.refl _ _⟩
  · rw [if_neg h]
    obtain ⟨n, rfl⟩ := Int.eq_ofNat_of_zero_le (show 0 ≤ n by omega)
    obtain ⟨p, rfl⟩ := Int.eq_ofNat_of_zero_le (show 0 ≤ at_ by omega)
    simp only [Int.toNat_natCast]
    by_cases h2 : l.length < p + (n + 1) / 2
    · rw [if_pos h2]
      exact (takeBcd_short A l.length c p n W (by omega) (by omega) hl h2).mono fun e W' h' => ⟨h'.1, h'.2 ▸ Below.refl _ _⟩
    · rw [if_neg h2]
      refine (takeBcd_any A l c p n W (by omega) hl (by omega) hc hr).mono fun e W' h' => ⟨h'.1.trans ?_, h'.2⟩
      unfold tbV
      have hlen : ((l.drop p).take ((n + 1) / 2)).length = (n + 1) / 2 := by rw [List.length_take, List.length_drop]; omega
      rw [hlen]
      split <;> rfl

def tgS (l : List UInt8) (at_ w : Int) : Int × Int × Int :=
  if w < 1 ∨ 8 < w ∨ at_ < 0 ∨ l.length < at_ then (0, 0, 1)
  else if l.length < at_.toNat + w.toNat then (0, 0, 3)
  else if numL ((l.drop at_.toNat).take w.toNat) ≤ 9223372036854775807 then (numL ((l.drop at_.toNat).take w.toNat), at_ + w, 0)
  else (0, 0, 2)
end Go.Proofs.YtecdmdgpmbgaaaaDoor
