
/- The document's answers: Figures, Digits, Value, Bcd. -/
import Derived.Test.YtfppcmhhbheaiaaDoorJ09
import Derived.Deep.QuietTactic
import Derived.BigQuiet
import Derived.IntWalk
namespace Go.Proofs.YtfppcmhhbheaiaaDoor
open Go.RowKit

set_option maxRecDepth 100000 in
/-- a power, under a name of its own -/
theorem power_at (b i P : Nat) (hP : Hid (P = b ^ i)) (h1 : 1 ≤ b) (h2 : P ≤ 9223372036854775807) (hi : i ≤ 63) (w : World) :
    Calls Tryd.prog 38 #[.int .i64 (b : Int), .int .i64 (i : Int)] w fun e w' => e = .returned (.int .i64 (P : Int)) ∧ w = w' := by
  have e : ((P : Nat) : Int) = (b : Int) ^ i := by rw [hP.out, Int.natCast_pow]
  have := power_any (b : Int) i w (by omega) (by rw [← e]; omega) hi
  rwa [← e] at this
set_option maxRecDepth 100000 in
theorem pow_named (b i : Nat) (h1 : 1 ≤ b) : ∃ P : Nat, Hid (P = b ^ i) ∧ 1 ≤ P := ⟨b ^ i, rfl, Nat.pow_pos (by omega)⟩

def refDigits (n w : Int) (e : Ending) : Prop := e = .returned (.tuple #[.string ⟨(digL n w).toArray⟩, .int .i64 (digE n w)])
set_option maxRecDepth 100000 in
theorem digE_no {n w : Int} (h : ¬ digOk n w = true) : digL n w = [] ∧ digE n w = 1 := by unfold digL digE; rw [if_neg h, if_neg h]; exact ⟨rfl, rfl⟩
set_option maxRecDepth 100000 in
theorem digE_yes {n w : Nat} (h : digOk n w = true) : digL n w = dgL 48 10 n w ∧ digE n w = 0 := by unfold digL digE; rw [if_pos h, if_pos h]; exact ⟨rfl, rfl⟩

set_option maxRecDepth 100000 in
theorem val_scale (l : List UInt8) (n k : Nat) (hn : l.length = n) (hk : k < n) (c : UInt8) (hc : l[k]? = some c) (_h48 : 48 ≤ c.toNat) (Q : Nat) (hQ : Q = 10 ^ (n - 1 - k)) :
    val (l.take k) * 10 ^ (n - k) + (c.toNat - 48) * Q = val (l.take (k + 1)) * 10 ^ (n - (k + 1)) := by
  subst hn
  have e : l[k] = c := by rw [List.getElem?_eq_getElem hk] at hc; exact Option.some.inj hc
  rw [take_snoc l k hk, e, val_snoc, show l.length - (k + 1) = l.length - 1 - k by omega, ← hQ, show l.length - k = (l.length - 1 - k) + 1 by omega, Nat.pow_succ, ← hQ, Nat.add_mul]
  congr 1
  rw [Nat.mul_comm Q 10, ← Nat.mul_assoc, Nat.mul_comm (val _) 10]
set_option maxRecDepth 100000 in
theorem val_scale_lt (l : List UInt8) (n k : Nat) (hn : l.length = n) (hk : k ≤ n) (h : allFig (l.take k) = true) : val (l.take k) * 10 ^ (n - k) < 10 ^ n := by
  subst hn
  have h1 := val_lt _ h
  rw [List.length_take, Nat.min_eq_left hk] at h1
  have h2 : 10 ^ l.length = 10 ^ k * 10 ^ (l.length - k) := by rw [← Nat.pow_add]; congr 1; omega
  rw [h2]
  exact Nat.mul_lt_mul_of_pos_right h1 (Nat.pow_pos (by omega))

set_option maxRecDepth 100000 in
theorem pair_next (t : List UInt8) (k : Nat) (h2 : t.length % 2 = 0) (hk : 2 * k + 1 < t.length) (a b : UInt8) (ha : t[2 * k]? = some a) (hb : t[2 * k + 1]? = some b) (hf : allFig t = true) :
    (packL gFig t).take k ++ [UInt8.ofNat (16 * (a.toNat - 48) + (b.toNat - 48))] = (packL gFig t).take (k + 1) := by
  have hl : k < (packL gFig t).length := by rw [packL_length]; omega
  rw [List.take_succ_eq_append_getElem hl, packL_get]
  congr 2
  have ea : t.getD (2 * k) 0 = a := by simp [List.getD, ha]
  have eb : t.getD (2 * k + 1) 0 = b := by simp [List.getD, hb]
  unfold allFig at hf
  rw [List.all_eq_true] at hf
  have fa := (isFig_iff _).1 (hf a (List.mem_of_getElem? ha))
  have fb := (isFig_iff _).1 (hf b (List.mem_of_getElem? hb))
  unfold pkAt hvF
  rw [h2, if_neg (by omega), if_neg (by omega), Nat.sub_zero, Nat.sub_zero, ea, eb]
  unfold gFig
  rw [if_pos fa, if_pos fb]
  rfl

end Go.Proofs.YtfppcmhhbheaiaaDoor
