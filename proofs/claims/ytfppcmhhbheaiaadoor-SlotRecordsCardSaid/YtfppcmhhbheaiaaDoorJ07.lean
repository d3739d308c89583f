
/- shown: the document's examples -/
import Derived.Test.YtfppcmhhbheaiaaDoorJ03
import Derived.Test.YtfppcmhhbheaiaaDoorJ04
namespace Go.Proofs.YtfppcmhhbheaiaaDoor
open Go.RowKit

set_option maxRecDepth 100000 in
theorem ex_big (W : World) : Calls Tryd.prog 24 #[.int .i64 258, .int .i64 2] W fun e W' => Ans W' e [1, 2] 2 (.int .i64 0) ∧ Below W.heap.size W W' :=
  (big_any 258 2 W (by omega) (by omega) (by omega)).mono fun e W' h => ⟨by
    have h1 := h.1
    unfold BigR at h1
    rw [if_pos (by omega)] at h1
    exact Ans.of _ h1 rfl, h.2⟩
set_option maxRecDepth 100000 in
theorem ex_takeBig (W : World) (A : Option Addr) (c : Nat) (hc : 2 ≤ c) (hr : Rd W W.heap.size A [1, 2]) : Calls Tryd.prog 27 #[.slice A 2 c, .int .i64 0, .int .i64 2] W fun e W' => e = .returned (.tuple #[.int .i64 258, .int .i64 2, .int .i64 0]) ∧ W = W' :=
  (takeBig_any A [1, 2] c 0 2 W (by omega) (by omega) (by decide) (by decide) hc hr).mono fun e W' h => ⟨h.1.trans (by rfl), h.2⟩
set_option maxRecDepth 100000 in
theorem ex_same (W : World) (A B : Option Addr) (c d : Nat) (ha : Rd W W.heap.size A [1, 35, 69]) (hb : Rd W W.heap.size B [1, 35, 69]) : Calls Tryd.prog 14 #[.slice A 3 c, .slice B 3 d] W fun e W' => e = .returned (.bool true) ∧ W = W' :=
  (same_any A B [1, 35, 69] [1, 35, 69] c d _ _ W ha hb).mono fun e W' h => ⟨h.1.trans (by rfl), h.2⟩

end Go.Proofs.YtfppcmhhbheaiaaDoor
/- Each exported function of dig, at all arguments. -/

namespace Go.Proofs.YtfppcmhhbheaiaaDoor
open Go.RowKit

def digOk (n w : Int) : Bool := decide (1 ≤ w) && decide (w ≤ 18) && decide (0 ≤ n) && decide (n.toNat < 10 ^ w.toNat)
def digL (n w : Int) : List UInt8 := if digOk n w = true then dgL 48 10 n.toNat w.toNat else []
def digE (n w : Int) : Int := if digOk n w = true then 0 else 1
set_option maxRecDepth 100000 in
theorem valR_len (l : List UInt8) (h : l.length < 1 ∨ 18 < l.length) : valR l = (0, 2) := by rw [valR, if_neg (by omega)]
def bcdL (l : List UInt8) : List UInt8 := if allFig l = true then packL gFig l else []
def bcdE (l : List UInt8) : Int := if allFig l = true then 0 else 2
def bigOk (n w : Int) : Bool := decide (1 ≤ w) && decide (w ≤ 8) && decide (0 ≤ n) && decide (n.toNat < 256 ^ w.toNat)
def bigL (n w : Int) : List UInt8 := if bigOk n w = true then dgL 0 256 n.toNat w.toNat else []
def bigE (n w : Int) : Int := if bigOk n w = true then 0 else 1
set_option maxRecDepth 100000 in
theorem big_all (n w : Int) (W : World) (hn : n ≤ 9223372036854775807) :
    Calls Tryd.prog 24 #[.int .i64 n, .int .i64 w] W fun e W' => Ans W' e (bigL n w) (bigL n w).length (.int .i64 (bigE n w)) ∧ Below W.heap.size W W' := by
  unfold bigL bigE
  by_cases h : w < 1 ∨ 8 < w ∨ n < 0
  · have e : ¬ bigOk n w = true := by simp [bigOk]; omega
    rw [if_neg e, if_neg e]
    exact (big_bad n w W h).mono fun e W' h' => ⟨⟨none, 0, h'.1, Nat.le_refl _, by omega, Rd.nil⟩, h'.2⟩
  · obtain ⟨n, rfl⟩ := Int.eq_ofNat_of_zero_le (show 0 ≤ n by omega)
    obtain ⟨w, rfl⟩ := Int.eq_ofNat_of_zero_le (show 0 ≤ w by omega)
    refine (big_any n w W (by omega) (by omega) (by omega)).mono fun e W' h' => ⟨?_, h'.2⟩
    have h1 := h'.1
    unfold BigR at h1
    by_cases h2 : n < 256 ^ w
    · have e : bigOk n w = true := by simp [bigOk]; omega
      rw [if_pos h2] at h1
      rw [if_pos e, if_pos e]
      exact Ans.of _ h1 rfl
    · have e : ¬ bigOk n w = true := by simp [bigOk]; omega
      rw [if_neg h2] at h1
      rw [if_neg e, if_neg e]
      exact ⟨none, 0, h1, Nat.le_refl _, by omega, Rd.nil⟩

def unhexOk (l : List UInt8) : Bool := decide (l.length % 2 = 0) && okL gHalf l
def unhexL (l : List UInt8) : List UInt8 := if unhexOk l = true then packL gHalf l else []
def unhexE (l : List UInt8) : Int := if unhexOk l = true then 0 else 2
def tbS (l : List UInt8) (at_ n : Int) : List UInt8 × Int × Int :=
  if n < 0 ∨ 999 < n ∨ at_ < 0 ∨ l.length < at_ then ([], 0, 1)
  else if l.length < at_.toNat + (n.toNat + 1) / 2 then ([], 0, 3)
  else if tbOk ((l.drop at_.toNat).take ((n.toNat + 1) / 2)) n.toNat = true then ((hx ((l.drop at_.toNat).take ((n.toNat + 1) / 2))).drop (n.toNat % 2), at_ + ((n.toNat + 1) / 2 : Nat), 0)
  else ([], 0, 2)
def tgS (l : List UInt8) (at_ w : Int) : Int × Int × Int :=
  if w < 1 ∨ 8 < w ∨ at_ < 0 ∨ l.length < at_ then (0, 0, 1)
  else if l.length < at_.toNat + w.toNat then (0, 0, 3)
  else if numL ((l.drop at_.toNat).take w.toNat) ≤ 9223372036854775807 then (numL ((l.drop at_.toNat).take w.toNat), at_ + w, 0)
  else (0, 0, 2)
set_option maxRecDepth 100000 in
theorem takeBig_all (A : Option Addr) (l : List UInt8) (c : Nat) (at_ w : Int) (W : World) (hl : l.length ≤ 1000000) (hc : l.length ≤ c) (hr : Rd W W.heap.size A l) :
    Calls Tryd.prog 27 #[.slice A l.length c, .int .i64 at_, .int .i64 w] W fun e W' => e = .returned (.tuple #[.int .i64 (tgS l at_ w).1, .int .i64 (tgS l at_ w).2.1, .int .i64 (tgS l at_ w).2.2]) ∧ W = W' := by
  unfold tgS
  by_cases h : w < 1 ∨ 8 < w ∨ at_ < 0 ∨ (l.length : Int) < at_
  · rw [if_pos h]
    exact takeBig_bad A l.length c at_ w W h
  · rw [if_neg h]
    obtain ⟨w, rfl⟩ := Int.eq_ofNat_of_zero_le (show 0 ≤ w by omega)
    obtain ⟨p, rfl⟩ := Int.eq_ofNat_of_zero_le (show 0 ≤ at_ by omega)
    simp only [Int.toNat_natCast]
    by_cases h2 : l.length < p + w
    · rw [if_pos h2]
      exact takeBig_short A l.length c p w W (by omega) (by omega) (by omega) hl h2
    · rw [if_neg h2]
      refine (takeBig_any A l c p w W (by omega) (by omega) hl (by omega) hc hr).mono fun e W' h' => ⟨h'.1.trans ?_, h'.2⟩
      unfold takeBigV
      split <;> rfl
end Go.Proofs.YtfppcmhhbheaiaaDoor
/- DigOrder's walk -/

namespace Go.Proofs.YtfppcmhhbheaiaaDoor
open Go.RowKit

set_option maxRecDepth 100000 in
theorem ok_of_digE {n w : Int} (h : digE n w = 0) : digOk n w = true := by
  unfold digE at h
  by_cases h2 : digOk n w = true
  · exact h2
  · rw [if_neg h2] at h; omega
set_option maxRecDepth 100000 in
theorem ok_of_bigE {n w : Int} (h : bigE n w = 0) : bigOk n w = true := by
  unfold bigE at h
  by_cases h2 : bigOk n w = true
  · exact h2
  · rw [if_neg h2] at h; omega
set_option maxRecDepth 100000 in
theorem digOk_iff (n w : Int) : digOk n w = true ↔ 1 ≤ w ∧ w ≤ 18 ∧ 0 ≤ n ∧ n.toNat < 10 ^ w.toNat := by simp [digOk, and_assoc]
set_option maxRecDepth 100000 in
theorem bigOk_iff (n w : Int) : bigOk n w = true ↔ 1 ≤ w ∧ w ≤ 8 ∧ 0 ≤ n ∧ n.toNat < 256 ^ w.toNat := by simp [bigOk, and_assoc]

set_option maxRecDepth 100000 in
theorem dig_order (m n w : Int) (h1 : digE m w = 0) (h2 : digE n w = 0) : Op.bytesLess (digL m w) (digL n w) = decide (m < n) ∧ (digL m w == digL n w) = (m == n) := by
  have a := ok_of_digE h1
  have b := ok_of_digE h2
  unfold digL
  rw [if_pos a, if_pos b, dgL_less 48 10 (by omega) (by omega)]
  rw [digOk_iff] at a b
  rw [Nat.mod_eq_of_lt a.2.2.2, Nat.mod_eq_of_lt b.2.2.2]
  refine ⟨by rw [Bool.eq_iff_iff]; simp; omega, ?_⟩
  rw [Bool.eq_iff_iff]
  simp only [beq_iff_eq, dgL_inj 48 10 (by omega) (by omega)]
  rw [Nat.mod_eq_of_lt a.2.2.2, Nat.mod_eq_of_lt b.2.2.2]
  omega
set_option maxRecDepth 100000 in
theorem big_order (m n w : Int) (h1 : bigE m w = 0) (h2 : bigE n w = 0) : Op.bytesLess (bigL m w) (bigL n w) = decide (m < n) ∧ (bigL m w == bigL n w) = (m == n) := by
  have a := ok_of_bigE h1
  have b := ok_of_bigE h2
  unfold bigL
  rw [if_pos a, if_pos b, dgL_less 0 256 (by omega) (by omega)]
  rw [bigOk_iff] at a b
  rw [Nat.mod_eq_of_lt a.2.2.2, Nat.mod_eq_of_lt b.2.2.2]
  refine ⟨by rw [Bool.eq_iff_iff]; simp; omega, ?_⟩
  rw [Bool.eq_iff_iff]
  simp only [beq_iff_eq, dgL_inj 0 256 (by omega) (by omega)]
  rw [Nat.mod_eq_of_lt a.2.2.2, Nat.mod_eq_of_lt b.2.2.2]
  omega

end Go.Proofs.YtfppcmhhbheaiaaDoor
/- DigParts' walk -/

namespace Go.Proofs.YtfppcmhhbheaiaaDoor
open Go.RowKit

set_option maxRecDepth 100000 in
theorem digL_len {n w : Int} (h : digE n w = 0) : (digL n w).length = w.toNat := by
  unfold digL
  rw [if_pos (ok_of_digE h), dgL_length]
set_option maxRecDepth 100000 in
theorem digL_fig {n w : Int} (h : digE n w = 0) : allFig (digL n w) = true := by
  unfold digL
  rw [if_pos (ok_of_digE h), dgL_fig]

set_option maxRecDepth 100000 in
theorem str_append (a b : List UInt8) : (⟨a.toArray⟩ : ByteArray) ++ ⟨b.toArray⟩ = ⟨(a ++ b).toArray⟩ := by
  apply ByteArray.ext
  simp

end Go.Proofs.YtfppcmhhbheaiaaDoor
