
/- SHA-256, plain: rounds, schedules, blocks, what stands behind; no walk. -/
import Derived.Test.YtfppcmhhbheaiaaDoorJ04
import Derived.Test.YtfppcmhhbheaiaaDoorJ01
import Derived.ProofKit
import Derived.OpenShut
import Derived.ShutString
import Derived.ChangeOld
import Derived.Lib.SmallJoins
namespace Go.Proofs.YtfppcmhhbheaiaaDoor
open Go.RowKit

structure St where
  a : UInt32
  b : UInt32
  c : UInt32
  d : UInt32
  e : UInt32
  f : UInt32
  g : UInt32
  h : UInt32
deriving DecidableEq

/-- a state as cells -/
abbrev St.cells (s : St) : Array Value := #[wv s.a, wv s.b, wv s.c, wv s.d, wv s.e, wv s.f, wv s.g, wv s.h]
abbrev St.v (s : St) : Value := .agg s.cells

def ksL : List UInt32 := [1116352408, 1899447441, 3049323471, 3921009573, 961987163, 1508970993, 2453635748, 2870763221, 3624381080, 310598401, 607225278, 1426881987, 1925078388, 2162078206, 2614888103, 3248222580, 3835390401, 4022224774, 264347078, 604807628, 770255983, 1249150122, 1555081692, 1996064986, 2554220882, 2821834349, 2952996808, 3210313671, 3336571891, 3584528711, 113926993, 338241895, 666307205, 773529912, 1294757372, 1396182291, 1695183700, 1986661051, 2177026350, 2456956037, 2730485921, 2820302411, 3259730800, 3345764771, 3516065817, 3600352804, 4094571909, 275423344, 430227734, 506948616, 659060556, 883997877, 958139571, 1322822218, 1537002063, 1747873779, 1955562222, 2024104815, 2227730452, 2361852424, 2428436474, 2756734187, 3204031479, 3329325298]
def ksAt (j : Nat) : UInt32 := ksL.getD j 0
def h0 : St := ⟨0x6a09e667, 0xbb67ae85, 0x3c6ef372, 0xa54ff53a, 0x510e527f, 0x9b05688c, 0x1f83d9ab, 0x5be0cd19⟩

def t1F (s : St) (k m : UInt32) : UInt32 := s.h + gr1 s.e + chF s.e s.f s.g + k + m
def t2F (s : St) : UInt32 := gr0 s.a + majF s.a s.b s.c
def rnd (s : St) (k m : UInt32) : St := ⟨t1F s k m + t2F s, s.a, s.b, s.c, s.d + t1F s k m, s.e, s.f, s.g⟩
def rnds (m : Nat → UInt32) (s : St) : Nat → St
  | 0 => s
  | k + 1 => rnd (rnds m s k) (ksAt k) (m k)
def St.add (x y : St) : St := ⟨x.a + y.a, x.b + y.b, x.c + y.c, x.d + y.d, x.e + y.e, x.f + y.f, x.g + y.g, x.h + y.h⟩

/-- a word of four bytes, the highest first -/
def word4 (a b c d : UInt8) : UInt32 := ((a.toUInt32 <<< UInt32.ofNat 24 ||| b.toUInt32 <<< UInt32.ofNat 16) ||| c.toUInt32 <<< UInt32.ofNat 8) ||| d.toUInt32
def wordAt (b : List UInt8) (t : Nat) : UInt32 := word4 (b.getD (4 * t) 0) (b.getD (4 * t + 1) 0) (b.getD (4 * t + 2) 0) (b.getD (4 * t + 3) 0)
def nextW (l : List UInt32) (t : Nat) : UInt32 := sm1 (l.getD (t - 2) 0) + l.getD (t - 7) 0 + sm0 (l.getD (t - 15) 0) + l.getD (t - 16) 0
/-- the first t words of a block -/
def mL (b : List UInt8) : Nat → List UInt32
  | 0 => []
  | t + 1 => mL b t ++ [if t < 16 then wordAt b t else nextW (mL b t) t]
def mAt (b : List UInt8) (t j : Nat) : UInt32 := (mL b t).getD j 0
set_option maxRecDepth 100000 in
theorem mL_length (b : List UInt8) (t : Nat) : (mL b t).length = t := by
  induction t with
  | zero => rfl
  | succ t ih => rw [mL, List.length_append, ih]; rfl
set_option maxRecDepth 100000 in
theorem mAt_succ (b : List UInt8) (t j : Nat) : mAt b (t + 1) j = if j = t then (if t < 16 then wordAt b t else nextW (mL b t) t) else mAt b t j := by
  unfold mAt
  rw [mL]
  simp only [List.getD_eq_getElem?_getD]
  by_cases h : j = t
  · rw [if_pos h, h, List.getElem?_append_right (by rw [mL_length]; omega), mL_length]
    simp
  · rw [if_neg h]
    by_cases h2 : j < t
    · rw [List.getElem?_append_left (by rw [mL_length]; omega)]
    · rw [List.getElem?_eq_none (by rw [List.length_append, mL_length]; simp; omega), List.getElem?_eq_none (by rw [mL_length]; omega)]
set_option maxRecDepth 100000 in
theorem mAt_low (b : List UInt8) (t j : Nat) (h : t < 16) : mAt b (t + 1) j = if j = t then wordAt b t else mAt b t j := by rw [mAt_succ, if_pos h]
set_option maxRecDepth 100000 in
theorem mAt_high (b : List UInt8) (t j : Nat) (h : ¬ t < 16) : mAt b (t + 1) j = if j = t then sm1 (mAt b t (t - 2)) + mAt b t (t - 7) + sm0 (mAt b t (t - 15)) + mAt b t (t - 16) else mAt b t j := by
  rw [mAt_succ, if_neg h]
  rfl

/-- the words behind a block -/
def compress (s : St) (b : List UInt8) : St := s.add (rnds (mAt b 64) s 64)
/-- the words behind the first n blocks of l -/
def blkN (s : St) (l : List UInt8) : Nat → St
  | 0 => s
  | n + 1 => compress (blkN s l n) ((l.drop (64 * n)).take 64)
set_option maxRecDepth 100000 in
theorem blkN_take (s : St) (l : List UInt8) (n m : Nat) (h : 64 * n ≤ m) : blkN s (l.take m) n = blkN s l n := by
  induction n with
  | zero => rfl
  | succ n ih =>
    rw [blkN, blkN, ih (by omega)]
    congr 1
    rw [List.drop_take, List.take_take, Nat.min_eq_left (by omega)]
set_option maxRecDepth 100000 in
theorem blkN_append (s : St) (l m : List UInt8) (n : Nat) (h : 64 * n ≤ l.length) : blkN s (l ++ m) n = blkN s l n := by
  have e := blkN_take s (l ++ m) n l.length h
  rw [List.take_left'] at e
  · exact e.symm
  · rfl
set_option maxRecDepth 100000 in
theorem blkN_add (s : St) (l : List UInt8) (n k : Nat) : blkN s l (n + k) = blkN (blkN s l n) (l.drop (64 * n)) k := by
  induction k with
  | zero => rfl
  | succ k ih =>
    rw [← Nat.add_assoc, blkN, blkN, ih, List.drop_drop]
    congr 3
    omega
/-- blocks as a loop goes: the state, and what is left -/
def blks (s : St) (l : List UInt8) : St := blkN s l (l.length / 64)
def left (l : List UInt8) : List UInt8 := l.drop (64 * (l.length / 64))
set_option maxRecDepth 100000 in
theorem left_length (l : List UInt8) : (left l).length = l.length % 64 := by
  unfold left
  rw [List.length_drop]
  omega
set_option maxRecDepth 100000 in
/-- in two pieces -/
theorem blks_pieces (s : St) (l m : List UInt8) : blks (blks s l) (left l ++ m) = blks s (l ++ m) ∧ left (left l ++ m) = left (l ++ m) := by
  have hl := left_length l
  have hn : (l ++ m).length / 64 = l.length / 64 + (left l ++ m).length / 64 := by
    rw [List.length_append, List.length_append, hl]
    omega
  have hd : (l ++ m).drop (64 * (l.length / 64)) = left l ++ m := by
    rw [List.drop_append_of_le_length (by omega)]
    rfl
  constructor
  · unfold blks
    rw [hn, blkN_add, hd, blkN_append s l m _ (by omega)]
  · unfold left
    rw [hn, Nat.mul_add, ← List.drop_drop, hd]
    rfl

/-- eight bytes of a number, the highest first -/
def be8 (n : Nat) : List UInt8 := (List.range 8).map fun i => UInt8.ofNat (n / 2 ^ (8 * (7 - i)))
/-- what stands behind n bytes, of which r are left -/
def padL (r n : Nat) : List UInt8 := 128 :: (List.replicate ((64 - (r + 9) % 64) % 64) 0 ++ be8 (8 * n))
def word8 (x : UInt32) : List UInt8 := [UInt8.ofNat (x.toNat / 16777216), UInt8.ofNat (x.toNat / 65536), UInt8.ofNat (x.toNat / 256), UInt8.ofNat x.toNat]
def St.list (s : St) : List UInt32 := [s.a, s.b, s.c, s.d, s.e, s.f, s.g, s.h]
def St.bytes (s : St) : List UInt8 := s.list.flatMap word8
/-- the digest -/
def sumF (s : St) (rest : List UInt8) (n : Nat) : List UInt8 := (blks s (rest ++ padL rest.length n)).bytes
def ofF (b : List UInt8) : List UInt8 := sumF (blks h0 b) (left b) b.length

set_option maxRecDepth 100000 in
theorem pad_total (r n : Nat) : (r + (padL r n).length) % 64 = 0 := by
  unfold padL be8
  simp only [List.length_cons, List.length_append, List.length_replicate, List.length_map, List.length_range]
  omega

set_option maxRecDepth 100000 in
theorem of_nil : ofF [] = [0xe3, 0xb0, 0xc4, 0x42, 0x98, 0xfc, 0x1c, 0x14, 0x9a, 0xfb, 0xf4, 0xc8, 0x99, 0x6f, 0xb9, 0x24, 0x27, 0xae, 0x41, 0xe4, 0x64, 0x9b, 0x93, 0x4c, 0xa4, 0x95, 0x99, 0x1b, 0x78, 0x52, 0xb8, 0x55] := by
  kernel_rfl
end Go.Proofs.YtfppcmhhbheaiaaDoor
/- Stores of two slots, plain. -/

namespace Go.Proofs.YtfppcmhhbheaiaaDoor
open Go.RowKit

structure Sr where
  a : List UInt8
  b : List UInt8
set_option maxRecDepth 100000 in
theorem Sr.ext' {x y : Sr} (h1 : x.a = y.a) (h2 : x.b = y.b) : x = y := by cases x; cases y; simp only at h1 h2; subst h1 h2; rfl
instance : DecidableEq Sr := fun x y => decidable_of_iff (x.a = y.a ∧ x.b = y.b) ⟨fun k => Sr.ext' k.1 k.2, fun k => by subst k; exact ⟨rfl, rfl⟩⟩
def yettL : List UInt8 := [121, 101, 116, 116]
/-- an epoch -/
def EpS (n : Int) : Prop := 1 ≤ n ∧ n ≤ 4611686018427387904
instance (n : Int) : Decidable (EpS n) := by unfold EpS; infer_instance
def bg8 (n : Int) : List UInt8 := dgL 0 256 n.toNat 8
/-- the digest's beginning -/
def dgS (b : List UInt8) : List UInt8 := (ofF (yettL ++ b)).take 8
def recL (n : Int) : List UInt8 := bg8 n ++ dgS (bg8 n)
def recordS (n : Int) : List UInt8 × Int := if EpS n then (recL n, 0) else ([], 1)
def numS (b : List UInt8) : Int := (numL (b.take 8) : Int)
def GoodS (b : List UInt8) : Prop := EpS (numS b) ∧ b = recL (numS b)
instance (b : List UInt8) : Decidable (GoodS b) := by unfold GoodS; infer_instance
def goodS (b : List UInt8) : Int × Bool := if GoodS b then (numS b, true) else (0, false)
def zero16 : List UInt8 := List.replicate 16 0
def newS : Sr := ⟨recL 1, zero16⟩
def RightS (s : Sr) : Prop := s.a.length = 16 ∧ s.b.length = 16
instance (s : Sr) : Decidable (RightS s) := by unfold RightS; infer_instance
def bestS (s : Sr) : Int × Int × Bool := if (goodS s.b).2 = true ∧ ((goodS s.a).2 = false ∨ (goodS s.a).1 < (goodS s.b).1) then ((goodS s.b).1, 1, true) else ((goodS s.a).1, 0, (goodS s.a).2)
def manyS (cut : Int) : Nat := if 0 ≤ cut ∧ cut < 16 then cut.toNat else 16
def laidS (next old : List UInt8) (m : Nat) : List UInt8 := next.take m ++ old.drop m
def behindS (s : Sr) (cut : Int) : Sr := if (bestS s).2.1 = 1 then { s with a := laidS (recL ((bestS s).1 + 1)) s.a (manyS cut) } else { s with b := laidS (recL ((bestS s).1 + 1)) s.b (manyS cut) }
def takeS (s : Sr) (cut : Int) : Sr × Int × Int :=
  if (bestS s).2.2 = false then (s, 0, 12) else if (bestS s).1 = 4611686018427387904 then (s, 0, 10)
  else if manyS cut < 16 then (behindS s cut, 0, 11) else (behindS s cut, (bestS s).1, 0)
/-! ### records -/
set_option maxRecDepth 100000 in
theorem bg8_len (n : Int) : (bg8 n).length = 8 := dgL_length _ _ _ _
set_option maxRecDepth 100000 in
theorem ofF_len (l : List UInt8) : (ofF l).length = 32 := by
  unfold ofF sumF
  generalize blks h0 l = s
  simp [St.bytes, St.list, word8]
set_option maxRecDepth 100000 in
theorem dgS_len (b : List UInt8) : (dgS b).length = 8 := by unfold dgS; rw [List.length_take, ofF_len]; decide
set_option maxRecDepth 100000 in
theorem recL_len (n : Int) : (recL n).length = 16 := by unfold recL; rw [List.length_append, bg8_len, dgS_len]
set_option maxRecDepth 100000 in
theorem recL_take (n : Int) : (recL n).take 8 = bg8 n := by unfold recL; exact List.take_left' (bg8_len n)
set_option maxRecDepth 100000 in
theorem numS_rec {n : Int} (h : EpS n) : numS (recL n) = n := by
  obtain ⟨h1, h2⟩ := h
  unfold numS
  rw [recL_take]
  unfold bg8
  rw [numL_dgL, Nat.mod_eq_of_lt (by have : (256 : Nat) ^ 8 = 18446744073709551616 := rfl; omega)]
  omega
set_option maxRecDepth 100000 in
theorem good_rec {n : Int} (h : EpS n) : goodS (recL n) = (n, true) := by
  unfold goodS
  rw [if_pos ⟨by rw [numS_rec h]; exact h, by rw [numS_rec h]⟩, numS_rec h]
set_option maxRecDepth 100000 in
theorem recL_inj {m n : Int} (hm : EpS m) (hn : EpS n) : recL m = recL n ↔ m = n := ⟨fun h => by rw [← numS_rec hm, ← numS_rec hn, h], fun h => by rw [h]⟩
set_option maxRecDepth 100000 in
theorem good_yes {b : List UInt8} (h : (goodS b).2 = true) : EpS (goodS b).1 ∧ b = recL (goodS b).1 := by
  unfold goodS at h ⊢
  split at h
  · rename_i hg; rw [if_pos hg]; exact hg
  · cases h
set_option maxRecDepth 100000 in
theorem good_no {b : List UInt8} (h : (goodS b).2 = false) : (goodS b).1 = 0 := by
  unfold goodS at h ⊢
  split at h
  · cases h
  · rename_i hg; rw [if_neg hg]
set_option maxRecDepth 100000 in
theorem good_is (b : List UInt8) : ((goodS b).2 = true ∧ EpS (goodS b).1) ∨ ((goodS b).2 = false ∧ (goodS b).1 = 0) := by
  cases h : (goodS b).2
  · exact .inr ⟨rfl, good_no h⟩
  · exact .inl ⟨rfl, (good_yes h).1⟩
set_option maxRecDepth 100000 in
/-- a record with a byte changed is good just if that one's digest begins so, and the byte is the number's -/
theorem rec_byte {n : Int} (h : EpS n) {c : List UInt8} (_hc : c.length = 16) {i : Nat} (_hi : i < 16) (hne : c[i]? ≠ (recL n)[i]?) (hsame : ∀ j, j ≠ i → c[j]? = (recL n)[j]?) (hg : (goodS c).2 = true) : i < 8 ∧ (ofF (yettL ++ c.take 8)).take 8 = c.drop 8 := by
  obtain ⟨h1, h2⟩ := good_yes hg
  have h3 : c.take 8 = bg8 (goodS c).1 := by
    have h5 : c.take 8 = (recL (goodS c).1).take 8 := congrArg (List.take 8) h2
    rw [h5, recL_take]
  refine ⟨?_, ?_⟩
  · refine Nat.lt_of_not_le (fun h8 => hne ?_)
    have h4 : c.take 8 = (recL n).take 8 := by
      apply List.ext_getElem?
      intro j
      rw [List.getElem?_take, List.getElem?_take]
      split
      · exact hsame j (by omega)
      · rfl
    have h5 : (goodS c).1 = n := by
      have h6 : numS c = numS (recL n) := by unfold numS; rw [h4]
      have h7 : numS c = (goodS c).1 := by
        conv => lhs; rw [h2]
        exact numS_rec h1
      rw [← h7, h6, numS_rec h]
    rw [h2, h5]
  · rw [h3]
    show dgS (bg8 (goodS c).1) = c.drop 8
    have h5 : c.drop 8 = (recL (goodS c).1).drop 8 := congrArg (List.drop 8) h2
    rw [h5]
    unfold recL
    rw [List.drop_left' (bg8_len _)]
/-! ### the better one -/
set_option maxRecDepth 100000 in
theorem best_is (s : Sr) : ((bestS s).2.2 = true ∧ EpS (bestS s).1 ∧ ((bestS s).2.1 = 0 ∧ s.a = recL (bestS s).1 ∨ (bestS s).2.1 = 1 ∧ s.b = recL (bestS s).1)) ∨ ((bestS s).2.2 = false ∧ (bestS s).1 = 0 ∧ (bestS s).2.1 = 0) := by
  unfold bestS
  split
  · rename_i h
    exact .inl ⟨rfl, (good_yes h.1).1, .inr ⟨rfl, (good_yes h.1).2⟩⟩
  · rcases good_is s.a with h1 | h1
    · exact .inl ⟨h1.1, h1.2, .inl ⟨rfl, (good_yes h1.1).2⟩⟩
    · exact .inr ⟨h1.1, h1.2, rfl⟩
set_option maxRecDepth 100000 in
/-- a slot that is good is not above what is told -/
theorem best_ge {s : Sr} : ((goodS s.a).2 = true → (bestS s).2.2 = true ∧ (goodS s.a).1 ≤ (bestS s).1) ∧ ((goodS s.b).2 = true → (bestS s).2.2 = true ∧ (goodS s.b).1 ≤ (bestS s).1) := by
  unfold bestS
  split
  · rename_i h
    refine ⟨fun ha => ⟨rfl, ?_⟩, fun _ => ⟨rfl, Int.le_refl _⟩⟩
    rcases h.2 with h2 | h2
    · rw [ha] at h2; cases h2
    · exact Int.le_of_lt h2
  · rename_i h
    refine ⟨fun ha => ⟨ha, Int.le_refl _⟩, fun hb => ?_⟩
    rcases good_is s.a with h1 | h1
    · exact ⟨h1.1, Int.not_lt.1 (fun hlt => h ⟨hb, .inr hlt⟩)⟩
    · exact absurd ⟨hb, .inl h1.1⟩ h
/-! ### taken -/
set_option maxRecDepth 100000 in
theorem many_le (cut : Int) : manyS cut ≤ 16 := by unfold manyS; split <;> omega
set_option maxRecDepth 100000 in
theorem laid_len {next old : List UInt8} {m : Nat} (h1 : next.length = 16) (h2 : old.length = 16) (hm : m ≤ 16) : (laidS next old m).length = 16 := by
  unfold laidS; rw [List.length_append, List.length_take, List.length_drop, h1, h2]; omega
set_option maxRecDepth 100000 in
theorem laid_all {next old : List UInt8} (h1 : next.length = 16) (h2 : old.length = 16) : laidS next old 16 = next := by
  unfold laidS; rw [List.take_of_length_le (by omega), List.drop_of_length_le (by omega), List.append_nil]
set_option maxRecDepth 100000 in
theorem behind_right {s : Sr} (h : RightS s) (cut : Int) : RightS (behindS s cut) := by
  unfold behindS
  split
  · exact ⟨laid_len (recL_len _) h.1 (many_le _), h.2⟩
  · exact ⟨h.1, laid_len (recL_len _) h.2 (many_le _)⟩
set_option maxRecDepth 100000 in
theorem take_right {s : Sr} (h : RightS s) (cut : Int) : RightS (takeS s cut).1 := by
  unfold takeS
  split
  · exact h
  · split
    · exact h
    · split
      · exact behind_right h cut
      · exact behind_right h cut
set_option maxRecDepth 100000 in
/-- what is told behind it is not below -/
theorem behind_best {s : Sr} (hb : (bestS s).2.2 = true) (cut : Int) : (bestS (behindS s cut)).2.2 = true ∧ (bestS s).1 ≤ (bestS (behindS s cut)).1 := by
  rcases best_is s with ⟨-, he, h⟩ | h
  · rcases h with ⟨h1, h2⟩ | ⟨h1, h2⟩
    · have e : (behindS s cut).a = s.a := by unfold behindS; rw [if_neg (by rw [h1]; decide)]
      have hg : goodS (behindS s cut).a = ((bestS s).1, true) := by rw [e, h2]; exact good_rec he
      have hk := best_ge (s := behindS s cut)
      rw [hg] at hk
      exact hk.1 rfl
    · have e : (behindS s cut).b = s.b := by unfold behindS; rw [if_pos h1]
      have hg : goodS (behindS s cut).b = ((bestS s).1, true) := by rw [e, h2]; exact good_rec he
      have hk := best_ge (s := behindS s cut)
      rw [hg] at hk
      exact hk.2 rfl
  · rw [h.1] at hb; cases hb
set_option maxRecDepth 100000 in
theorem behind_more {s : Sr} (hr : RightS s) (hb : (bestS s).2.2 = true) (hl : (bestS s).1 ≠ 4611686018427387904) (cut : Int) (hm : manyS cut = 16) : (bestS (behindS s cut)).2.2 = true ∧ (bestS s).1 + 1 ≤ (bestS (behindS s cut)).1 := by
  rcases best_is s with ⟨-, he, h⟩ | h
  · have he' : EpS ((bestS s).1 + 1) := by obtain ⟨e1, e2⟩ := he; exact ⟨by omega, by omega⟩
    rcases h with ⟨h1, h2⟩ | ⟨h1, h2⟩
    · have e : (behindS s cut).b = recL ((bestS s).1 + 1) := by unfold behindS; rw [if_neg (by rw [h1]; decide), hm]; exact laid_all (recL_len _) hr.2
      have hk := best_ge (s := behindS s cut)
      rw [e, good_rec he'] at hk
      exact hk.2 rfl
    · have e : (behindS s cut).a = recL ((bestS s).1 + 1) := by unfold behindS; rw [if_pos h1, hm]; exact laid_all (recL_len _) hr.1
      have hk := best_ge (s := behindS s cut)
      rw [e, good_rec he'] at hk
      exact hk.1 rfl
  · rw [h.1] at hb; cases hb
/-- SlotRises' round -/
def RiseI (s : Sr) (l : Int) : Prop := RightS s ∧ 0 ≤ l ∧ (0 < l → (bestS s).2.2 = true ∧ l < (bestS s).1)
set_option maxRecDepth 100000 in
theorem many_torn (cut : Int) : manyS cut < 16 ↔ (0 ≤ cut ∧ cut < 16) := by unfold manyS; split <;> omega
set_option maxRecDepth 100000 in
theorem rise_step {s : Sr} {l : Int} (h : RiseI s l) (cut : Int) :
    RightS (takeS s cut).1 ∧ ((takeS s cut).2.2 = 0 → l < (takeS s cut).2.1 ∧ ¬ (0 ≤ cut ∧ cut < 16)) ∧ ((takeS s cut).2.2 ≠ 0 → (takeS s cut).2.1 = 0) ∧ ((takeS s cut).2.2 = 11 → 0 ≤ cut ∧ cut < 16) ∧
      RiseI (takeS s cut).1 (if (takeS s cut).2.2 = 0 then (takeS s cut).2.1 else l) := by
  obtain ⟨hr, h0, hl⟩ := h
  have hrr := take_right hr cut
  unfold takeS at hrr ⊢
  cases hb : (bestS s).2.2 with
  | false =>
    rw [if_pos rfl]
    refine ⟨hr, fun e => absurd (show (12 : Int) = 0 from e) (by decide), fun _ => rfl, fun e => absurd (show (12 : Int) = 11 from e) (by decide), ?_⟩
    show RiseI s l
    exact ⟨hr, h0, hl⟩
  | true =>
    rw [hb] at hrr
    rw [if_neg (by decide)] at hrr ⊢
    by_cases hs : (bestS s).1 = 4611686018427387904
    · rw [if_pos hs]
      refine ⟨hr, fun e => absurd (show (10 : Int) = 0 from e) (by decide), fun _ => rfl, fun e => absurd (show (10 : Int) = 11 from e) (by decide), ?_⟩
      show RiseI s l
      exact ⟨hr, h0, hl⟩
    · rw [if_neg hs] at hrr ⊢
      by_cases hm : manyS cut < 16
      · rw [if_pos hm] at hrr ⊢
        refine ⟨hrr, fun e => absurd (show (11 : Int) = 0 from e) (by decide), fun _ => rfl, fun _ => (many_torn cut).1 hm, ?_⟩
        show RiseI (behindS s cut) l
        have hk := behind_best hb cut
        refine ⟨hrr, h0, fun hp => ⟨hk.1, ?_⟩⟩
        have := (hl hp).2
        omega
      · rw [if_neg hm] at hrr ⊢
        have hk := behind_more hr hb hs cut (by have := many_le cut; omega)
        have hep : EpS (bestS s).1 := by rcases best_is s with h5 | h5; exact h5.2.1; rw [h5.1] at hb; cases hb
        have hlt : l < (bestS s).1 := by
          by_cases hp : 0 < l
          · exact (hl hp).2
          · have := hep.1; omega
        refine ⟨hrr, fun _ => ⟨hlt, fun e => hm ((many_torn cut).2 e)⟩, fun e => absurd rfl e, fun e => absurd (show (0 : Int) = 11 from e) (by decide), ?_⟩
        show RiseI (behindS s cut) (bestS s).1
        exact ⟨hrr, by have := hep.1; omega, fun _ => ⟨hk.1, by omega⟩⟩
/-! ### from a new store on -/
/-- a store behind k epochs -/
def goneS : Nat → Sr
  | 0 => newS
  | k + 1 => (takeS (goneS k) (-1)).1
/-- what lies in it -/
def AtS (s : Sr) (k : Nat) : Prop := RightS s ∧ bestS s = ((k : Int) + 1, ((k % 2 : Nat) : Int), true) ∧ (if k % 2 = 0 then s.a = recL ((k : Int) + 1) else s.b = recL ((k : Int) + 1)) ∧ (1 ≤ k → if k % 2 = 0 then s.b = recL k else s.a = recL k)
set_option maxRecDepth 100000 in
theorem zero_bad : (goodS zero16).2 = false := by
  unfold goodS
  rw [if_neg (fun h => by
    have h1 := h.1.1
    have h2 : numS zero16 = 0 := by decide
    rw [h2] at h1
    exact absurd h1 (by decide))]
set_option maxRecDepth 100000 in
theorem at_best {s : Sr} {k : Nat} (hk : k ≤ 1000) (h1 : if k % 2 = 0 then s.a = recL ((k : Int) + 1) else s.b = recL ((k : Int) + 1)) (h2 : if k % 2 = 0 then (goodS s.b).2 = false ∨ (goodS s.b).1 < (k : Int) + 1 else (goodS s.a).2 = false ∨ (goodS s.a).1 < (k : Int) + 1) : bestS s = ((k : Int) + 1, ((k % 2 : Nat) : Int), true) := by
  have he : EpS ((k : Int) + 1) := ⟨by omega, by omega⟩
  by_cases hp : k % 2 = 0
  · rw [if_pos hp] at h1 h2
    unfold bestS
    rw [h1, good_rec he, if_neg (by
      rintro ⟨e1, e2⟩
      rcases e2 with e2 | e2
      · cases e2
      · rcases h2 with h2 | h2
        · rw [e1] at h2; cases h2
        · omega), hp]
    rfl
  · rw [if_neg hp] at h1 h2
    unfold bestS
    rw [h1, good_rec he, if_pos ⟨rfl, h2⟩, show k % 2 = 1 by omega]
    rfl
set_option maxRecDepth 100000 in
theorem gone_at (k : Nat) (hk : k ≤ 1000) : AtS (goneS k) k := by
  induction k with
  | zero =>
    refine ⟨⟨recL_len _, by decide⟩, at_best hk ?_ ?_, ?_, fun h => absurd h (by decide)⟩
    · rw [if_pos rfl]; rfl
    · rw [if_pos rfl]; exact .inl zero_bad
    · rw [if_pos rfl]; rfl
  | succ k ih =>
    obtain ⟨hr, hb, h1, -⟩ := ih (by omega)
    have hm : manyS (-1) = 16 := rfl
    have e : goneS (k + 1) = behindS (goneS k) (-1) := by
      show (takeS (goneS k) (-1)).1 = _
      unfold takeS
      rw [hb, if_neg (show ¬ (true = false) by decide), if_neg (by show ¬ ((k : Int) + 1 = _); omega), if_neg (by rw [hm]; decide)]
    rw [e]
    have hrr := behind_right hr (-1)
    have hek : EpS ((k : Int) + 1) := ⟨by omega, by omega⟩
    have hc : ((k + 1 : Nat) : Int) = (k : Int) + 1 := by omega
    have hc2 : ((k + 1 : Nat) : Int) + 1 = (k : Int) + 1 + 1 := by omega
    by_cases hp : k % 2 = 0
    · rw [if_pos hp] at h1
      have e1 : (behindS (goneS k) (-1)).b = recL ((k : Int) + 1 + 1) := by unfold behindS; rw [hb, if_neg (by show ¬ (((k % 2 : Nat) : Int) = 1); omega), hm]; exact laid_all (recL_len _) hr.2
      have e2 : (behindS (goneS k) (-1)).a = recL ((k : Int) + 1) := by unfold behindS; rw [hb, if_neg (by show ¬ (((k % 2 : Nat) : Int) = 1); omega)]; exact h1
      have hp2 : ¬ (k + 1) % 2 = 0 := by omega
      refine ⟨hrr, at_best hk ?_ ?_, ?_, fun _ => ?_⟩
      · rw [if_neg hp2, hc2]; exact e1
      · rw [if_neg hp2, e2, good_rec hek]; exact .inr (by omega)
      · rw [if_neg hp2, hc2]; exact e1
      · rw [if_neg hp2, hc]; exact e2
    · rw [if_neg hp] at h1
      have e1 : (behindS (goneS k) (-1)).a = recL ((k : Int) + 1 + 1) := by unfold behindS; rw [hb, if_pos (by show (((k % 2 : Nat) : Int) = 1); omega), hm]; exact laid_all (recL_len _) hr.1
      have e2 : (behindS (goneS k) (-1)).b = recL ((k : Int) + 1) := by unfold behindS; rw [hb, if_pos (by show (((k % 2 : Nat) : Int) = 1); omega)]; exact h1
      have hp2 : (k + 1) % 2 = 0 := by omega
      refine ⟨hrr, at_best hk ?_ ?_, ?_, fun _ => ?_⟩
      · rw [if_pos hp2, hc2]; exact e1
      · rw [if_pos hp2, e2, good_rec hek]; exact .inr (by omega)
      · rw [if_pos hp2, hc2]; exact e1
      · rw [if_pos hp2, hc]; exact e2
set_option maxRecDepth 100000 in
/-- each epoch is given in order -/
theorem gone_take (k : Nat) (hk : k ≤ 999) : takeS (goneS k) (-1) = (goneS (k + 1), (k : Int) + 1, 0) := by
  obtain ⟨hr, hb, -, -⟩ := gone_at k (by omega)
  have hm : manyS (-1) = 16 := rfl
  show takeS (goneS k) (-1) = ((takeS (goneS k) (-1)).1, _, _)
  unfold takeS
  rw [hb, if_neg (show ¬ (true = false) by decide), if_neg (by show ¬ ((k : Int) + 1 = _); omega), if_neg (by rw [hm]; decide)]
end Go.Proofs.YtfppcmhhbheaiaaDoor
/- What the laws' frames share: a slice of bytes that came in, read as a list of bytes. -/

namespace Go.Proofs.YtfppcmhhbheaiaaDoor
open Go.ChangeShapes Go.WideShapes Go.ChangeAt Go.RowKit
open Go.ChangeMaps (open_string shut_string)

set_option maxRecDepth 100000 in
theorem own : ownKnob Tryd.prog.godebug = none := by kernel_rfl
set_option maxRecDepth 100000 in
theorem laidOut : laidOutB Tryd.prog = true := by kernel_rfl

set_option maxRecDepth 100000 in
theorem i64_bd {a : Int} (h : (Lit.int .i64 a).wf = true) : -9223372036854775808 ≤ a ∧ a ≤ 9223372036854775807 := by
  simpa [Lit.wf, IntKind.min, IntKind.max, IntKind.signed, IntKind.bits] using h
set_option maxRecDepth 100000 in
theorem u8_bd {a : Int} (h : (Lit.int .u8 a).wf = true) : 0 ≤ a ∧ a ≤ 255 := by
  simpa [Lit.wf, IntKind.min, IntKind.max, IntKind.signed, IntKind.bits] using h

set_option maxRecDepth 100000 in
/-- a slice value that reads as data: its bytes -/
theorem bytes_in {H : Type} {enc : TypeId × Value → H} {W : World} {base fuel : Nat} {spare : Nat → Bool} {held : Bool} {a : Option Addr} {n c : Nat} {y : DataW H × List MemPlace}
    (hf : DataW.trod enc Tryd.prog W base spare held fuel 22 [.slice a n c] = some y) : ∃ l : List UInt8, n = l.length ∧ l.length ≤ c ∧ c ≤ 9223372036854775807 ∧ Rd W W.heap.size a l := by
  rcases open_ints Tryd.underlying22 Tryd.underlying5 (by kernel_rfl) hf with ⟨hcs, _⟩ | ⟨x, l, c', zs, hcs, _, hl, hm, hz, _, hcell, hwz⟩
  · simp at hcs
    obtain ⟨rfl, rfl, rfl⟩ := hcs
    exact ⟨[], rfl, by simp, by omega, Rd.nil⟩
  · simp at hcs
    obtain ⟨rfl, rfl, rfl⟩ := hcs
    have hzl : n ≤ zs.length := by
      rw [hz]
      split <;> omega
    refine ⟨(zs.take n).map fun z => UInt8.ofNat z.toNat, by simp; omega, by simp; omega, by simpa [maxLen] using hm, fun h0 => ?_⟩
    have h0' : 0 < n := by simp at h0; omega
    obtain ⟨b, o, spot⟩ := x
    have hc0 := hcell 0 (by omega)
    have hspot : spot = none := by simpa [Addr.add] using World.cell?_spot hc0
    subst hspot
    refine ⟨b, o, rfl, World.block_lt_of_cell? W ⟨b, o, none⟩ (by simpa [Addr.add] using hc0), fun j hj => ?_⟩
    have hj' : j < n := by simp at hj; omega
    have hc := hcell j (by omega)
    rw [Addr.add_lit] at hc
    rw [hc]
    have hzj : j < zs.length := by omega
    have hw := u8_bd (hwz zs[j] (List.getElem_mem hzj))
    have e : zs.getD j 0 = zs[j] := by simp [List.getD, hzj]
    rw [e]
    simp only [List.getElem_map, List.getElem_take, UInt8.toNat_ofNat']
    congr 2
    omega
end Go.Proofs.YtfppcmhhbheaiaaDoor
