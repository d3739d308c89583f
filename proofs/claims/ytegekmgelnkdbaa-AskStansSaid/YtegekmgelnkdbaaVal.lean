
/- Same, dig.Value -/
import Derived.Test.YtegekmgelnkdbaaHex
import Derived.Test.YtegekmgelnkdbaaSmall
namespace Go.Proofs.Ytegekmgelnkdbaa
open Go.RowKit

set_option maxRecDepth 100000 in
theorem same_any (A B : Option Addr) (la lb : List UInt8) (ca cb BA BB : Nat) (w : World) (ha : Rd w BA A la) (hb : Rd w BB B lb) :
    Calls Try.prog 24 #[.slice A la.length ca, .slice B lb.length cb] w fun e w' => e = .returned (.bool (decide (la = lb))) ∧ w = w' := by
  have h1 := run_str (P := Try.prog) ha ca _ _ _ Try.underlying22 Try.underlying5 Try.underlying9
  have h2 := run_str (P := Try.prog) hb cb _ _ _ Try.underlying22 Try.underlying5 Try.underlying9
  go_enter Try.func24, Try.ntmps24
  go_wp2
  go_ret
  refine ⟨?_, rfl⟩
  simp
  rw [Bool.eq_iff_iff]; simp

set_option maxRecDepth 100000 in
theorem same_sl (v1 v2 : Value) (la lb : List UInt8) (w : World) (ha : Sl w v1 la) (hb : Sl w v2 lb) :
    Calls Try.prog 24 #[v1, v2] w fun e w' => e = .returned (.bool (decide (la = lb))) ∧ w = w' := by
  obtain ⟨A, ca, rfl, _, _, h1⟩ := ha
  obtain ⟨B, cb, rfl, _, _, h2⟩ := hb
  exact same_any A B la lb ca cb _ _ w h1 h2

def isFig (c : UInt8) : Bool := decide (48 ≤ c.toNat) && decide (c.toNat ≤ 57)
def allFig (l : List UInt8) : Bool := l.all isFig
def val (l : List UInt8) : Nat := l.foldl (fun n c => 10 * n + (c.toNat - 48)) 0
set_option maxRecDepth 100000 in
theorem val_snoc (l : List UInt8) (c : UInt8) : val (l ++ [c]) = 10 * val l + (c.toNat - 48) := by simp [val]
set_option maxRecDepth 100000 in
theorem isFig_iff (c : UInt8) : isFig c = true ↔ 48 ≤ c.toNat ∧ c.toNat ≤ 57 := by simp [isFig]
set_option maxRecDepth 100000 in
theorem snoc_ind {α : Type} {motive : List α → Prop} (h0 : motive []) (h1 : ∀ l a, motive l → motive (l ++ [a])) (l : List α) : motive l := by
  have h : ∀ r : List α, motive r.reverse := by
    intro r
    induction r with
    | nil => exact h0
    | cons a r ih => rw [List.reverse_cons]; exact h1 _ _ ih
  have := h l.reverse
  rwa [List.reverse_reverse] at this
set_option maxRecDepth 100000 in
theorem val_lt (l : List UInt8) (h : allFig l = true) : val l < 10 ^ l.length := by
  induction l using snoc_ind with
  | h0 => simp [val]
  | h1 l a ih =>
    simp only [allFig, List.all_append, List.all_cons, List.all_nil, Bool.and_true, Bool.and_eq_true] at h
    have h2 := (isFig_iff a).1 h.2
    have h3 := ih h.1
    rw [val_snoc, List.length_append, List.length_cons, List.length_nil, Nat.pow_add]
    omega
def valR (l : List UInt8) : Nat × Nat := if 1 ≤ l.length ∧ l.length ≤ 18 ∧ allFig l = true then (val l, 0) else (0, 2)

set_option maxRecDepth 100000 in
theorem bytes_len (s : ByteArray) : s.data.toList.length = s.size := by rw [Array.length_toList]; rfl
set_option maxRecDepth 100000 in
theorem bytes_take (s : ByteArray) (k : Nat) (h : k < s.size) : s.data.toList.take (k + 1) = s.data.toList.take k ++ [s[k]] := by
  rw [List.take_succ_eq_append_getElem (by rw [bytes_len]; exact h)]; rfl

set_option maxRecDepth 100000 in
theorem all_snoc (l : List UInt8) (c : UInt8) : allFig (l ++ [c]) = (allFig l && isFig c) := by simp [allFig]
set_option maxRecDepth 100000 in
theorem all_not (l : List UInt8) (k : Nat) (h : k < l.length) (hn : isFig l[k] = false) : allFig l = false := by
  unfold allFig
  rw [List.all_eq_false]
  exact ⟨l[k], List.getElem_mem h, by simp [hn]⟩
set_option maxRecDepth 100000 in
theorem get_bytes (s : ByteArray) (k : Nat) (h : k < s.size) : s.data.toList[k]'(by rw [bytes_len]; exact h) = s[k] := rfl
set_option maxRecDepth 100000 in
/-- the rune that stands at a place where no figure stands is none -/
theorem rune_no (s : ByteArray) (k : Nat) (h : k < s.size) (hn : isFig s[k] = false) : ((Utf8.decode s k).1 : Int) < 48 ∨ 57 < ((Utf8.decode s k).1 : Int) := by
  by_cases ha : (s[k]'h).toNat < 128
  · rw [decode_ascii s k h ha]
    have : ¬ (48 ≤ s[k].toNat ∧ s[k].toNat ≤ 57) := by rw [← isFig_iff, hn]; simp
    simp only
    omega
  · have := (decode_high s k h (by omega)).1
    omega
set_option maxRecDepth 100000 in
theorem valR_ok (l : List UInt8) (h1 : 1 ≤ l.length) (h2 : l.length ≤ 18) (h : allFig l = true) : valR l = (val l, 0) := by rw [valR, if_pos ⟨h1, h2, h⟩]
set_option maxRecDepth 100000 in
theorem valR_no (l : List UInt8) (h : allFig l = false) : valR l = (0, 2) := by rw [valR, if_neg (by simp [h])]

end Go.Proofs.Ytegekmgelnkdbaa
