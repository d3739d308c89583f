
/- A window of numbers, plain. -/
import Derived.WalkKit
import Derived.Test.YtdnfggjklblpnaaRows
import Derived.WalkLawsBesides
import Derived.WalkSpells
import Derived.Lib.Hide
import Derived.Lib.OthersKept
import Derived.WalkSmall
import Derived.Deep.OwnRows
import Derived.Deep.AppendLies
import Derived.Laws.IdiomStrings
import Derived.ProofKit
import Derived.OpenShut
import Derived.ShutString
import Derived.ChangeOld
import Derived.Lib.SmallJoins
namespace Go.Proofs.Ytdnfggjklblpnaa
open Go.RowKit

/-- a window: one more than the greatest number that was taken, and sixteen words of places -/
structure Wn where
  top : Int
  b : Nat → Nat
def most : Int := 4611686018427387904
def hasW (w : Wn) (p : Nat) : Bool := (w.b (p / 64)).testBit (p % 64)
/-- n words of 64 bits, out of places -/
def wordN (g : Nat → Bool) : Nat → Nat
  | 0 => 0
  | i + 1 => wordN g i + if g i then 2 ^ i else 0
set_option maxRecDepth 100000 in
theorem wordN_lt (g : Nat → Bool) : ∀ n, wordN g n < 2 ^ n
  | 0 => by simp [wordN]
  | n + 1 => by
    have := wordN_lt g n
    unfold wordN
    rw [Nat.pow_succ]
    split <;> omega
set_option maxRecDepth 100000 in
theorem wordN_bit (g : Nat → Bool) : ∀ n i, (wordN g n).testBit i = (decide (i < n) && g i)
  | 0, i => by simp [wordN]
  | n + 1, i => by
    have h1 := wordN_bit g n i
    have h2 := wordN_lt g n
    unfold wordN
    by_cases hg : g n = true
    · rw [if_pos hg]
      by_cases hi : i = n
      · subst hi
        rw [Nat.add_comm, Nat.testBit_two_pow_add_eq, Nat.testBit_lt_two_pow h2]
        simp [hg]
      · by_cases hlt : i < n
        · rw [Nat.add_comm, Nat.testBit_two_pow_add_gt hlt, h1]
          simp [hlt, Nat.lt_succ_of_lt hlt]
        · rw [Nat.testBit_lt_two_pow (show wordN g n + 2 ^ n < 2 ^ i from by
            have := Nat.pow_le_pow_right (n := 2) (by decide) (show n + 1 ≤ i by omega)
            rw [Nat.pow_succ] at this
            omega)]
          rw [decide_eq_false (by omega)]
          rfl
    · rw [if_neg hg, Nat.add_zero, h1]
      by_cases hi : i = n
      · subst hi
        simp [hg]
      · by_cases hlt : i < n
        · simp [hlt, Nat.lt_succ_of_lt hlt]
        · rw [decide_eq_false hlt, decide_eq_false (by omega)]
set_option maxRecDepth 100000 in
theorem wordN_congr {g h : Nat → Bool} : ∀ n, (∀ i, i < n → g i = h i) → wordN g n = wordN h n
  | 0, _ => rfl
  | n + 1, e => by
    unfold wordN
    rw [wordN_congr n (fun i hi => e i (by omega)), e n (by omega)]
set_option maxRecDepth 100000 in
theorem wordN_none : ∀ n, wordN (fun _ => false) n = 0
  | 0 => rfl
  | n + 1 => by unfold wordN; rw [wordN_none n]; simp
set_option maxRecDepth 100000 in
/-- one place more -/
theorem wordN_add (g : Nat → Bool) (q : Nat) (hq : g q = false) : ∀ n, q < n → wordN (fun i => g i || decide (i = q)) n = wordN g n + 2 ^ q
  | 0, h => by omega
  | n + 1, h => by
    unfold wordN
    by_cases e : q = n
    · subst e
      rw [wordN_congr (g := fun i => g i || decide (i = q)) (h := g) q (fun i hi => by simp; omega)]
      simp [hq]
    · rw [wordN_add g q hq n (by omega)]
      simp only [show decide (n = q) = false from decide_eq_false (fun k => e k.symm), Bool.or_false]
      omega
set_option maxRecDepth 100000 in
theorem wordN_of (x n : Nat) (h : x < 2 ^ n) : wordN (fun i => x.testBit i) n = x := by
  apply Nat.eq_of_testBit_eq
  intro i
  rw [wordN_bit]
  by_cases hi : i < n
  · simp [hi]
  · rw [decide_eq_false hi, Nat.testBit_lt_two_pow (Nat.lt_of_lt_of_le h (Nat.pow_le_pow_right (by decide) (by omega)))]
    rfl
/-- the words of places -/
def wordsG (g : Nat → Bool) (j : Nat) : Nat := wordN (fun i => g (64 * j + i)) 64
set_option maxRecDepth 100000 in
theorem wordsG_lt (g : Nat → Bool) (j : Nat) : wordsG g j < 18446744073709551616 := wordN_lt _ 64
set_option maxRecDepth 100000 in
theorem has_wordsG (t : Int) (g : Nat → Bool) (p : Nat) : hasW ⟨t, wordsG g⟩ p = g p := by
  show (wordN (fun i => g (64 * (p / 64) + i)) 64).testBit (p % 64) = g p
  rw [wordN_bit, decide_eq_true (Nat.mod_lt _ (by decide)), show 64 * (p / 64) + p % 64 = p by omega]
  rfl
set_option maxRecDepth 100000 in
theorem wordsG_congr {g h : Nat → Bool} (j : Nat) (hj : j < 16) (e : ∀ p, p < 1024 → g p = h p) : wordsG g j = wordsG h j := wordN_congr 64 (fun i hi => e _ (by omega))
set_option maxRecDepth 100000 in
theorem wordsG_add (g : Nat → Bool) (p : Nat) (hp : g p = false) (j : Nat) : wordsG (fun i => g i || decide (i = p)) j = if j = p / 64 then wordsG g j + 2 ^ (p % 64) else wordsG g j := by
  unfold wordsG
  by_cases e : j = p / 64
  · rw [if_pos e]
    subst e
    rw [← wordN_add (fun i => g (64 * (p / 64) + i)) (p % 64) (by rw [show 64 * (p / 64) + p % 64 = p by omega]; exact hp) 64 (Nat.mod_lt _ (by decide))]
    refine wordN_congr 64 (fun i hi => ?_)
    have : decide (64 * (p / 64) + i = p) = decide (i = p % 64) := decide_eq_decide.2 (by omega)
    show (g _ || decide (64 * (p / 64) + i = p)) = _
    rw [this]
  · rw [if_neg e]
    refine wordN_congr 64 (fun i hi => ?_)
    show (g _ || decide (64 * j + i = p)) = _
    rw [show decide (64 * j + i = p) = false from decide_eq_false (by omega), Bool.or_false]

/-- windows that are the same, all of it -/
def SameW (a b : Wn) : Prop := a.top = b.top ∧ ∀ j, j < 16 → a.b j = b.b j
set_option maxRecDepth 100000 in
theorem SameW.refl (a : Wn) : SameW a a := ⟨rfl, fun _ _ => rfl⟩
set_option maxRecDepth 100000 in
theorem SameW.symm {a b : Wn} (h : SameW a b) : SameW b a := ⟨h.1.symm, fun j hj => (h.2 j hj).symm⟩
set_option maxRecDepth 100000 in
theorem SameW.trans {a b c : Wn} (h : SameW a b) (k : SameW b c) : SameW a c := ⟨h.1.trans k.1, fun j hj => (h.2 j hj).trans (k.2 j hj)⟩
set_option maxRecDepth 100000 in
theorem SameW.has {a b : Wn} (h : SameW a b) {p : Nat} (hp : p < 1024) : hasW a p = hasW b p := by unfold hasW; rw [h.2 (p / 64) (by omega)]
/-- words of 64 bits -/
def W64 (w : Wn) : Prop := ∀ j, j < 16 → w.b j < 18446744073709551616
set_option maxRecDepth 100000 in
theorem same_of_has {a b : Wn} (ha : W64 a) (hb : W64 b) (ht : a.top = b.top) (h : ∀ p, p < 1024 → hasW a p = hasW b p) : SameW a b := by
  refine ⟨ht, fun j hj => Nat.eq_of_testBit_eq fun i => ?_⟩
  by_cases hi : i < 64
  · have h1 := h (64 * j + i) (by omega)
    unfold hasW at h1
    rwa [show (64 * j + i) / 64 = j by omega, show (64 * j + i) % 64 = i by omega] at h1
  · have e : ∀ x, x < 18446744073709551616 → x.testBit i = false := fun x hx => Nat.testBit_lt_two_pow (Nat.lt_of_lt_of_le hx (by have := Nat.pow_le_pow_right (n := 2) (by decide) (show 64 ≤ i by omega); exact this))
    rw [e _ (ha j hj), e _ (hb j hj)]
/-- which windows are right -/
def RightW (w : Wn) : Prop := 0 ≤ w.top ∧ w.top ≤ most + 1 ∧ (∀ p : Nat, w.top ≤ p → p < 1024 → hasW w p = false) ∧ (w.top = 0 ∨ hasW w ((w.top - 1).toNat % 1024) = true)
/-- may a number be taken? -/
def FreshW (w : Wn) (n : Int) : Prop := 0 ≤ n ∧ n ≤ most ∧ w.top - 1024 ≤ n ∧ (w.top ≤ n ∨ hasW w (n.toNat % 1024) = false)
instance (w : Wn) (n : Int) : Decidable (FreshW w n) := by unfold FreshW; infer_instance
/-- the number of a window that stands at a place -/
def numW (top : Int) (p : Nat) : Int := top - 1 - (top - 1 - p) % 1024
/-- the places, behind a number -/
def markG (w : Wn) (n : Nat) (t : Int) (p : Nat) : Bool := (hasW w p && decide (t - 1024 ≤ numW w.top p)) || decide (p = n % 1024)
def topW (w : Wn) (n : Int) : Int := if w.top ≤ n then n + 1 else w.top
def markW (w : Wn) (n : Int) : Wn := ⟨topW w n, wordsG (markG w n.toNat (topW w n))⟩
def markR (w : Wn) (n : Int) : Wn × Int := if 0 ≤ n ∧ n ≤ most then (if FreshW w n then (markW w n, 0) else (w, 6)) else (w, 1)
set_option maxRecDepth 100000 in
theorem markW_64 (w : Wn) (n : Int) : W64 (markW w n) := fun j _ => wordsG_lt _ j
set_option maxRecDepth 100000 in
theorem has_mark (w : Wn) (n : Int) (p : Nat) : hasW (markW w n) p = markG w n.toNat (topW w n) p := has_wordsG _ _ p
set_option maxRecDepth 100000 in
theorem numW_mod (top : Int) {p : Nat} (hp : p < 1024) : (numW top p) % 1024 = p := by unfold numW; omega
set_option maxRecDepth 100000 in
theorem numW_bd (top : Int) (p : Nat) : top - 1024 ≤ numW top p ∧ numW top p < top := by unfold numW; omega
set_option maxRecDepth 100000 in
theorem numW_of {top n : Int} {p : Nat} (h1 : top - 1024 ≤ n) (h2 : n < top) (h3 : n % 1024 = p) : numW top p = n := by unfold numW; omega
set_option maxRecDepth 100000 in
theorem toNat_mod {n : Int} (h : 0 ≤ n) : ((n.toNat % 1024 : Nat) : Int) = n % 1024 := by omega
set_option maxRecDepth 100000 in
/-- what was taken in a right window is no number below 0 -/
theorem RightW.num {w : Wn} (h : RightW w) {p : Nat} (hp : p < 1024) (hh : hasW w p = true) : 0 ≤ numW w.top p := by
  obtain ⟨h1, -, h3, -⟩ := h
  by_cases hlt : w.top ≤ p
  · rw [h3 p hlt hp] at hh; cases hh
  · unfold numW; omega
set_option maxRecDepth 100000 in
/-- a window stays right -/
theorem mark_right {w : Wn} {n : Int} (h : RightW w) (hf : FreshW w n) : RightW (markW w n) := by
  obtain ⟨f1, f2, f3, f4⟩ := hf
  have h1 := h.1
  have h2 := h.2.1
  have ht : (markW w n).top = topW w n := rfl
  have hT : topW w n = if w.top ≤ n then n + 1 else w.top := rfl
  refine ⟨?_, ?_, fun p hp hp2 => ?_, .inr ?_⟩
  · rw [ht, hT]; split <;> omega
  · rw [ht, hT]; unfold most at *; split <;> omega
  · rw [ht] at hp
    rw [has_mark]
    unfold markG
    have e1 : hasW w p = false := h.2.2.1 p (by rw [hT] at hp; split at hp <;> omega) hp2
    have e2 : decide (p = n.toNat % 1024) = false := decide_eq_false (fun e => by rw [hT] at hp; split at hp <;> omega)
    rw [e1, e2]; rfl
  · rw [ht, has_mark]
    unfold markG
    by_cases hle : w.top ≤ n
    · rw [hT, if_pos hle, show decide ((n + 1 - 1).toNat % 1024 = n.toNat % 1024) = true from decide_eq_true (by omega), Bool.or_true]
    · rw [hT, if_neg hle]
      rcases h.2.2.2 with h0 | h0
      · omega
      · rw [h0, decide_eq_true (show w.top - 1024 ≤ numW w.top ((w.top - 1).toNat % 1024) by unfold numW; omega)]
        rfl
set_option maxRecDepth 100000 in
/-- what is fresh behind a number -/
theorem mark_fresh {w : Wn} {n : Int} (hf : FreshW w n) (m : Int) : FreshW (markW w n) m ↔ (FreshW w m ∧ m ≠ n ∧ n - 1024 < m) := by
  obtain ⟨f1, f2, f3, f4⟩ := hf
  have ht : (markW w n).top = topW w n := rfl
  have hT : topW w n = if w.top ≤ n then n + 1 else w.top := rfl
  have hp : ∀ {m : Int}, 0 ≤ m → m.toNat % 1024 < 1024 := fun _ => Nat.mod_lt _ (by decide)
  unfold FreshW
  rw [ht, has_mark]
  unfold markG
  constructor
  · rintro ⟨m1, m2, m3, m4⟩
    have hb := numW_bd w.top (m.toNat % 1024)
    have hm := numW_mod w.top (hp m1)
    have hmm := toNat_mod m1
    have hnn := toNat_mod f1
    by_cases hle : w.top ≤ n
    · rw [hT, if_pos hle] at m3 m4
      refine ⟨⟨m1, m2, by omega, ?_⟩, ?_, by omega⟩
      · by_cases hc : w.top ≤ m
        · exact .inl hc
        · right
          rcases m4 with m4 | m4
          · omega
          · have e := numW_of (top := w.top) (n := m) (p := m.toNat % 1024) (by omega) (by omega) hmm.symm
            rw [e, decide_eq_true (by omega), Bool.and_true] at m4
            exact (Bool.or_eq_false_iff.1 m4).1
      · rintro rfl
        rcases m4 with m4 | m4
        · omega
        · simp at m4
    · rw [hT, if_neg hle] at m3 m4
      refine ⟨⟨m1, m2, m3, ?_⟩, ?_, by omega⟩
      · by_cases hc : w.top ≤ m
        · exact .inl hc
        · right
          rcases m4 with m4 | m4
          · omega
          · rw [decide_eq_true (by omega), Bool.and_true] at m4
            exact (Bool.or_eq_false_iff.1 m4).1
      · rintro rfl
        rcases m4 with m4 | m4
        · omega
        · simp at m4
  · rintro ⟨⟨m1, m2, m3, m4⟩, m5, m6⟩
    have hmm := toNat_mod m1
    have hnn := toNat_mod f1
    refine ⟨m1, m2, by rw [hT]; split <;> omega, ?_⟩
    by_cases hc : topW w n ≤ m
    · exact .inl hc
    · right
      have hT2 : topW w n ≤ n + 1 ∨ topW w n = w.top := by rw [hT]; split <;> omega
      have hT3 : w.top ≤ topW w n := by rw [hT]; split <;> omega
      have hT4 : n < topW w n := by rw [hT]; split <;> omega
      have e2 : decide (m.toNat % 1024 = n.toNat % 1024) = false := decide_eq_false (fun e => by rw [hT] at hc; split at hc <;> omega)
      rw [e2, Bool.or_false]
      rcases m4 with m4 | m4
      · have hb := numW_bd w.top (m.toNat % 1024)
        have hm := numW_mod w.top (hp m1)
        rw [decide_eq_false (show ¬ topW w n - 1024 ≤ numW w.top (m.toNat % 1024) by rw [hT]; rw [hT] at hc; split <;> rename_i hx <;> simp only [hx, if_true, if_false] at hc <;> omega), Bool.and_false]
      · rw [m4]; rfl
end Go.Proofs.Ytdnfggjklblpnaa
/- Bytes in memory: a slice value that reads as a list of bytes; what the walk asks of it. -/

namespace Go.Proofs.Ytdnfggjklblpnaa
open Go.RowKit

set_option maxRecDepth 100000 in
theorem ret_int {k : IntKind} {a b : Int} (h : a = b) : Ending.returned (.int k a) = .returned (.int k b) := by rw [h]

/-- the cells of a list of bytes -/
def cs (l : List UInt8) : List Value := l.map fun b => Value.int .u8 (b.toNat : Int)
set_option maxRecDepth 100000 in
theorem cs_length (l : List UInt8) : (cs l).length = l.length := by simp [cs]
set_option maxRecDepth 100000 in
theorem cs_append (a b : List UInt8) : cs (a ++ b) = cs a ++ cs b := by simp [cs]
set_option maxRecDepth 100000 in
theorem cs_get (l : List UInt8) (j : Nat) (h : j < l.length) : (cs l)[j]? = some (.int .u8 (l[j].toNat : Int)) := by simp [cs, h]
set_option maxRecDepth 100000 in
theorem cs_one (l : List UInt8) : ∀ u ∈ cs l, u.oneCell' = true := by
  intro u hu
  obtain ⟨_, _, rfl⟩ := List.mem_map.1 hu
  rfl

/-- the slice at the address A reads as the bytes l, below block B -/
def Rd (w : World) (B : Nat) (A : Option Addr) (l : List UInt8) : Prop :=
  0 < l.length → ∃ b o, A = some ⟨b, o, none⟩ ∧ b < B ∧ ∀ j (h : j < l.length), w.cell? ⟨b, o + j, none⟩ = some (.int .u8 (l[j].toNat : Int))

set_option maxRecDepth 100000 in
theorem Rd.keep {w w' : World} {B : Nat} {A : Option Addr} {l : List UInt8} (h : Rd w B A l) (hk : ∀ p : Addr, p.block < B → w'.cell? p = w.cell? p) : Rd w' B A l := by
  intro hl
  obtain ⟨b, o, e, hb, hc⟩ := h hl
  exact ⟨b, o, e, hb, fun j hj => (hk _ (by exact hb)).trans (hc j hj)⟩
set_option maxRecDepth 100000 in
theorem Rd.more {w : World} {B B' : Nat} {A : Option Addr} {l : List UInt8} (h : Rd w B A l) (hB : B ≤ B') : Rd w B' A l := by
  intro hl
  obtain ⟨b, o, e, hb, hc⟩ := h hl
  exact ⟨b, o, e, by omega, hc⟩
set_option maxRecDepth 100000 in
theorem Rd.below {w w' : World} {B B' : Nat} {A : Option Addr} {l : List UInt8} (h : Rd w B A l) (hb : Below B' w w') (hB : B ≤ B') : Rd w' B A l :=
  h.keep fun p hp => hb.cell (p := p) (by omega)
set_option maxRecDepth 100000 in
theorem Rd.nil {w : World} {B : Nat} {A : Option Addr} : Rd w B A [] := fun h => absurd h (by simp)
set_option maxRecDepth 100000 in
theorem Rd.at_ {w : World} {B : Nat} {A : Option Addr} {l : List UInt8} (h : Rd w B A l) {k : Nat} (hk : k < l.length) :
    ∃ b o, A = some ⟨b, o, none⟩ ∧ b < B ∧ w.cell? ⟨b, o + k, none⟩ = some (.int .u8 (l[k].toNat : Int)) := by
  obtain ⟨b, o, e, hb, hc⟩ := h (by omega)
  exact ⟨b, o, e, hb, hc k hk⟩
set_option maxRecDepth 100000 in
/-- a cut -/
theorem Rd.cut {w : World} {B : Nat} {A : Option Addr} {l : List UInt8} (h : Rd w B A l) (i n c : Nat) (hn : i + n ≤ l.length) (hc : l.length ≤ c) :
    Rd w B (if c = i then A else A.map (·.add (i * 1))) ((l.drop i).take n) := by
  intro hl
  have hl' : 0 < min n (l.length - i) := by simpa using hl
  obtain ⟨b, o, rfl, hb, hcell⟩ := h (by omega)
  rw [if_neg (by omega)]
  refine ⟨b, o + i, by simp [Addr.add_lit], hb, fun j hj => ?_⟩
  have hj' : j < n := by have : j < min n (l.length - i) := by simpa using hj
                         omega
  rw [Nat.add_assoc, hcell (i + j) (by omega)]
  simp

/-- the slice value v reads as l -/
def Sl (w : World) (v : Value) (l : List UInt8) : Prop := ∃ A c, v = .slice A l.length c ∧ l.length ≤ c ∧ c ≤ 9223372036854775807 ∧ Rd w w.heap.size A l

set_option maxRecDepth 100000 in
theorem Sl.below {w w' : World} {v : Value} {l : List UInt8} (h : Sl w v l) (hb : Below w.heap.size w w') : Sl w' v l := by
  obtain ⟨A, c, rfl, hc, hc2, hr⟩ := h
  exact ⟨A, c, rfl, hc, hc2, (hr.below hb (Nat.le_refl _)).more hb.size⟩
set_option maxRecDepth 100000 in
theorem Sl.nil {w : World} : Sl w (.slice none 0 0) [] := ⟨none, 0, rfl, by simp, by simp, Rd.nil⟩
set_option maxRecDepth 100000 in
theorem Sl.own {w : World} {base : Nat} {v : Value} {l : List UInt8} {e : TypeId} (h : w.ownsRow base e 1 v l.length (cs l)) : Sl w v l := by
  rcases h.2 with ⟨rfl, h0⟩ | ⟨g, cap, cur, rfl, hb, hg, hn, hcap, hsz, htake⟩
  · obtain rfl : l = [] := List.eq_nil_of_length_eq_zero h0
    exact Sl.nil
  · refine ⟨some ⟨g, 0, none⟩, cap, rfl, hn, by simpa [maxLen] using hcap, fun _ => ⟨g, 0, rfl, (Array.getElem?_eq_some_iff.1 hg).1, fun j hj => ?_⟩⟩
    have := h.cells (g := g) rfl j _ (cs_get l j hj)
    rwa [Addr.add_lit] at this
set_option maxRecDepth 100000 in
theorem Sl.row {w : World} {b n : Nat} {t : TypeId} {f : Nat → Value} {l : List UInt8} (h : w.rowIs b t n f) (hn : l.length = n) (hm : n ≤ 9223372036854775807) (hf : ∀ j (hj : j < l.length), f j = .int .u8 (l[j].toNat : Int)) :
    Sl w (.slice (some ⟨b, 0, none⟩) n n) l := by
  subst hn
  refine ⟨_, _, rfl, Nat.le_refl _, hm, fun _ => ⟨b, 0, rfl, h.lt, fun j hj => ?_⟩⟩
  rw [Nat.zero_add, h.cell hj, hf j hj]

/-- a call's answer: a slice that reads as l, and something more -/
def Ans (W' : World) (e : Ending) (l : List UInt8) (n : Nat) (x : Value) : Prop := ∃ A c, e = .returned (.tuple #[.slice A n c, x]) ∧ n ≤ c ∧ c ≤ 9223372036854775807 ∧ Rd W' W'.heap.size A l
set_option maxRecDepth 100000 in
theorem Ans.of {W' : World} {e : Ending} {l : List UInt8} {x : Value} (n : Nat) (h : ∃ v, e = .returned (.tuple #[v, x]) ∧ Sl W' v l) (hn : l.length = n) : Ans W' e l n x := by
  obtain ⟨v, rfl, A, c, rfl, h1, h2, h3⟩ := h
  subst hn
  exact ⟨A, c, rfl, h1, h2, h3⟩

set_option maxRecDepth 100000 in
/-- 'string(b)' -/
theorem run_str {P : Program} {w : World} {B : Nat} {A : Option Addr} {l : List UInt8} (h : Rd w B A l) (c : Nat) (src dst e : TypeId) (hs : P.underlying src = some (.slice e)) (he : P.underlying e = some (.int .u8)) (hd : P.underlying dst = some .string) :
    (convert src dst (.slice A l.length c)).run P w = .ok (.string ⟨l.toArray⟩) w := by
  by_cases hl : 0 < l.length
  · obtain ⟨b, o, rfl, hb, hc⟩ := h hl
    exact run_convert_bytes_back w src dst e ⟨b, o, none⟩ c l hs he hd (fun j hj => by rw [Addr.add_lit]; exact hc j hj)
  · obtain rfl : l = [] := List.eq_nil_of_length_eq_zero (by omega)
    cases A with
    | none => exact run_convert_bytes_nil w src e hs he 0 c dst hd
    | some a => exact run_convert_bytes_back w src dst e a c [] hs he hd (fun j hj => absurd hj (by simp))

/-! ### appending bytes to a slice of the call's own -/
/-- v is the call's own slice (from block base on), and reads as l -/
def Ow (w : World) (base : Nat) (v : Value) (l : List UInt8) : Prop := w.ownsRow base 5 1 v l.length (cs l)
set_option maxRecDepth 100000 in
theorem info5 : (Try.prog.info? 5).map (fun i => (i.zero, i.size, i.bytes)) = some (some (.int .u8 0), 1, 1) := by kernel_rfl
set_option maxRecDepth 100000 in
theorem Ow.nil {w : World} {base : Nat} : Ow w base (.slice none 0 0) [] := World.ownsRow_nil _ _ _ _
set_option maxRecDepth 100000 in
theorem Ow.sl {w : World} {base : Nat} {v : Value} {l : List UInt8} (h : Ow w base v l) : Sl w v l := Sl.own h
set_option maxRecDepth 100000 in
theorem Ow.alloc {w : World} {base : Nat} {v : Value} {l : List UInt8} (h : Ow w base v l) (o : Obj) : Ow (w.alloc o) base v l := World.ownsRow.alloc h o
set_option maxRecDepth 100000 in
theorem Ow.drew {w : World} {base : Nat} {v : Value} {l : List UInt8} (h : Ow w base v l) : Ow w.drew base v l := h

set_option maxRecDepth 100000 in
theorem le_alloc {w : World} {n : Nat} (h : n ≤ w.heap.size) (o : Obj) : n ≤ (w.alloc o).heap.size := by rw [World.size_alloc]; omega
set_option maxRecDepth 100000 in
/-- one byte, just laid in a block of its own -/
theorem news1 (w : World) (n : Int) (h0 : 0 ≤ n) (h1 : n < 256) : ∀ j u, (cs [UInt8.ofNat n.toNat])[j]? = some u → (w.alloc (.cells #[.int .u8 n] 5)).cell? ((⟨w.heap.size, 0, none⟩ : Addr).add j) = some u := by
  intro j u hu
  have e : cs [UInt8.ofNat n.toNat] = [.int .u8 n] := by
    simp only [cs, List.map_cons, List.map_nil, UInt8.toNat_ofNat']
    congr 2
    omega
  rw [e] at hu
  exact cell_one_new _ _ _ j u hu
set_option maxRecDepth 100000 in
theorem news2 (w : World) (a b : UInt8) : ∀ j u, (cs [a, b])[j]? = some u → (w.alloc (.cells #[.int .u8 (a.toNat : Int), .int .u8 (b.toNat : Int)] 5)).cell? ((⟨w.heap.size, 0, none⟩ : Addr).add j) = some u :=
  cell_two_new _ _ _ _
set_option maxRecDepth 100000 in
/-- what 'grownBy' does to 'Below' where the row is the call's own -/
theorem Ow.below {w0 w w' : World} {base : Nat} {v : Value} {l : List UInt8} (h : Ow w base v l) (hb : Below base w0 w) (hg : w.grownBy w' v.ownBlock) (hB : base ≤ w.heap.size) : Below base w0 w' :=
  hb.grown hg hB (fun k hk => (World.ownsRow.lt h k hk).1)

/-! ### appending a slice that reads as bytes, nil and empty ones too; under a guard too -/
set_option maxRecDepth 100000 in
theorem Ow.made0 (w : World) {base : Nat} (hb : base ≤ w.heap.size) : Ow (w.alloc (.cells #[] 5)) base (.slice (some ⟨w.heap.size, 0, none⟩) 0 0) [] :=
  ⟨rfl, .inr ⟨w.heap.size, 0, #[], rfl, hb, heap_alloc_new w _, Nat.le_refl _, by simp [maxLen], rfl, rfl⟩⟩
set_option maxRecDepth 100000 in
theorem Ow.made1 (w : World) {base : Nat} (hb : base ≤ w.heap.size) (n : UInt8) : Ow (w.alloc (.cells #[.int .u8 (n.toNat : Int)] 5)) base (.slice (some ⟨w.heap.size, 0, none⟩) 1 1) [n] :=
  ⟨rfl, .inr ⟨w.heap.size, 1, #[.int .u8 (n.toNat : Int)], rfl, hb, heap_alloc_new w _, Nat.le_refl _, by simp [maxLen], rfl, rfl⟩⟩
set_option maxRecDepth 100000 in
/-- what is the call's own is a slice value -/
theorem Ow.form {w : World} {base : Nat} {v : Value} {l : List UInt8} (h : Ow w base v l) : ∃ A c, v = .slice A l.length c ∧ l.length ≤ c ∧ c ≤ 9223372036854775807 ∧ Rd w w.heap.size A l := h.sl
end Go.Proofs.Ytdnfggjklblpnaa
/- What the laws' frames share: a slice of bytes that came in, read as a list of bytes. -/

namespace Go.Proofs.Ytdnfggjklblpnaa
open Go.ChangeShapes Go.WideShapes Go.ChangeAt Go.RowKit
open Go.ChangeMaps (open_string shut_string)

set_option maxRecDepth 100000 in
theorem own : ownKnob Try.prog.godebug = none := by kernel_rfl
set_option maxRecDepth 100000 in
theorem laidOut : laidOutB Try.prog = true := by kernel_rfl

set_option maxRecDepth 100000 in
theorem i64_bd {a : Int} (h : (Lit.int .i64 a).wf = true) : -9223372036854775808 ≤ a ∧ a ≤ 9223372036854775807 := by
  simpa [Lit.wf, IntKind.min, IntKind.max, IntKind.signed, IntKind.bits] using h
set_option maxRecDepth 100000 in
theorem u8_bd {a : Int} (h : (Lit.int .u8 a).wf = true) : 0 ≤ a ∧ a ≤ 255 := by
  simpa [Lit.wf, IntKind.min, IntKind.max, IntKind.signed, IntKind.bits] using h

end Go.Proofs.Ytdnfggjklblpnaa
