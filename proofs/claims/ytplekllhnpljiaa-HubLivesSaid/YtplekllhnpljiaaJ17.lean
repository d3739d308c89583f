
/- Words of 32 bits: SHA-256's functions, plain; the walk's spelling of the operations; small callees. -/
import Derived.Test.YtplekllhnpljiaaJ01
import Derived.Laws.BitsAll
import Derived.Laws.ShiftsVar
import Derived.Deep.QuietTactic
import Derived.BigQuiet
import Derived.IntWalk
import Derived.Outline
import Derived.Deep.Draws
import Derived.Deep.MidRow
import Derived.Deep.WholeRow
namespace Go.Proofs.Ytplekllhnpljiaa
open Go.RowKit

/-- a word's value -/
abbrev wv (x : UInt32) : Value := .int .u32 (x.toNat : Int)

def rotr (x : UInt32) (n : Nat) : UInt32 := (x >>> UInt32.ofNat n) ||| (x <<< UInt32.ofNat (32 - n))
def sm0 (x : UInt32) : UInt32 := (rotr x 7 ^^^ rotr x 18) ^^^ (x >>> UInt32.ofNat 3)
def sm1 (x : UInt32) : UInt32 := (rotr x 17 ^^^ rotr x 19) ^^^ (x >>> UInt32.ofNat 10)
def gr0 (x : UInt32) : UInt32 := (rotr x 2 ^^^ rotr x 13) ^^^ rotr x 22
def gr1 (x : UInt32) : UInt32 := (rotr x 6 ^^^ rotr x 11) ^^^ rotr x 25
def chF (e f g : UInt32) : UInt32 := (e &&& f) ^^^ ((~~~e) &&& g)
def majF (a b c : UInt32) : UInt32 := ((a &&& b) ^^^ (a &&& c)) ^^^ (b &&& c)

set_option maxRecDepth 100000 in
theorem w_lt (x : UInt32) : (x.toNat : Int) < 4294967296 := by have := x.toNat_lt; omega
set_option maxRecDepth 100000 in
theorem w_and (a b : UInt32) : bits .and .u32 (a.toNat : Int) (b.toNat : Int) = ((a &&& b).toNat : Int) := by
  rw [u32_and_nat _ _ a.toNat_lt b.toNat_lt, UInt32.toNat_and]
set_option maxRecDepth 100000 in
theorem w_or (a b : UInt32) : bits .or .u32 (a.toNat : Int) (b.toNat : Int) = ((a ||| b).toNat : Int) := by
  rw [u32_or_nat _ _ a.toNat_lt b.toNat_lt, UInt32.toNat_or]
set_option maxRecDepth 100000 in
theorem w_xor (a b : UInt32) : bits .xor .u32 (a.toNat : Int) (b.toNat : Int) = ((a ^^^ b).toNat : Int) := by
  rw [u32_xor_nat _ _ a.toNat_lt b.toNat_lt, UInt32.toNat_xor]
set_option maxRecDepth 100000 in
theorem w_not (a : UInt32) : bits .xor .u32 4294967295 (a.toNat : Int) = ((~~~a).toNat : Int) := by
  have h := w_xor (-1) a
  have e : (-1 : UInt32) ^^^ a = ~~~a := by
    rw [UInt32.neg_one_xor]
  rw [e] at h
  exact h
set_option maxRecDepth 100000 in
theorem w_not' (a : UInt32) : bits .xor .u32 IntKind.u32.max (a.toNat : Int) = ((~~~a).toNat : Int) := w_not a
set_option maxRecDepth 100000 in
theorem w_add (a b : UInt32) : IntKind.u32.wrap ((a.toNat : Int) + (b.toNat : Int)) = ((a + b).toNat : Int) := by
  rw [IntKind.wrap_u32', UInt32.toNat_add]
  omega
set_option maxRecDepth 100000 in
theorem w_add' (a b : UInt32) : ((a.toNat : Int) + (b.toNat : Int)) % 4294967296 = ((a + b).toNat : Int) := by
  rw [UInt32.toNat_add]
  omega
set_option maxRecDepth 100000 in
theorem w_shr (x : UInt32) (n : Nat) (h : n < 32) : (x.toNat : Int) / ((2 ^ n : Nat) : Int) = ((x >>> UInt32.ofNat n).toNat : Int) := by
  have e : (UInt32.ofNat n).toNat % 32 = n := by
    rw [UInt32.toNat_ofNat']
    omega
  rw [UInt32.toNat_shiftRight, e, Nat.shiftRight_eq_div_pow]
  rfl
set_option maxRecDepth 100000 in
theorem w_shl (x : UInt32) (n : Nat) (h : n < 32) : ((x.toNat : Int) * ((2 ^ n : Nat) : Int)) % 4294967296 = ((x <<< UInt32.ofNat n).toNat : Int) := by
  have e : (UInt32.ofNat n).toNat % 32 = n := by
    rw [UInt32.toNat_ofNat']
    omega
  rw [UInt32.toNat_shiftLeft, e, Nat.shiftLeft_eq, ← Int.natCast_mul]
  omega

set_option maxRecDepth 100000 in
/-- the turned word, in both orders -/
theorem w_rot (x : UInt32) (n : Nat) (h1 : 1 ≤ n) (h2 : n < 32) :
    bits .or .u32 ((x.toNat : Int) / ((2 ^ n : Nat) : Int)) (((x.toNat : Int) * ((2 ^ (32 - n) : Nat) : Int)) % 4294967296) = ((rotr x n).toNat : Int) := by
  rw [w_shr x n h2, w_shl x (32 - n) (by omega), w_or]
  rfl
set_option maxRecDepth 100000 in
theorem w_rot' (x : UInt32) (n : Nat) (h1 : 1 ≤ n) (h2 : n < 32) :
    bits .or .u32 (((x.toNat : Int) * ((2 ^ (32 - n) : Nat) : Int)) % 4294967296) ((x.toNat : Int) / ((2 ^ n : Nat) : Int)) = ((rotr x n).toNat : Int) := by
  rw [w_shr x n h2, w_shl x (32 - n) (by omega), w_or]
  unfold rotr
  rw [UInt32.or_comm]

def rotsB (n : Nat) : Prop := n = 2 ∨ n = 6 ∨ n = 7 ∨ n = 11 ∨ n = 13 ∨ n = 17 ∨ n = 18 ∨ n = 19 ∨ n = 22 ∨ n = 25

end Go.Proofs.Ytplekllhnpljiaa
/- SHA-256, plain: rounds, schedules, blocks, what stands behind; no walk. -/

namespace Go.Proofs.Ytplekllhnpljiaa
open Go.RowKit

structure St where
  a : UInt32
  b : UInt32
  c : UInt32
  d : UInt32
  e : UInt32
  f : UInt32
  g : UInt32
  h : UInt32
deriving DecidableEq

/-- a state as cells -/
abbrev St.cells (s : St) : Array Value := #[wv s.a, wv s.b, wv s.c, wv s.d, wv s.e, wv s.f, wv s.g, wv s.h]
abbrev St.v (s : St) : Value := .agg s.cells

def ksL : List UInt32 := [1116352408, 1899447441, 3049323471, 3921009573, 961987163, 1508970993, 2453635748, 2870763221, 3624381080, 310598401, 607225278, 1426881987, 1925078388, 2162078206, 2614888103, 3248222580, 3835390401, 4022224774, 264347078, 604807628, 770255983, 1249150122, 1555081692, 1996064986, 2554220882, 2821834349, 2952996808, 3210313671, 3336571891, 3584528711, 113926993, 338241895, 666307205, 773529912, 1294757372, 1396182291, 1695183700, 1986661051, 2177026350, 2456956037, 2730485921, 2820302411, 3259730800, 3345764771, 3516065817, 3600352804, 4094571909, 275423344, 430227734, 506948616, 659060556, 883997877, 958139571, 1322822218, 1537002063, 1747873779, 1955562222, 2024104815, 2227730452, 2361852424, 2428436474, 2756734187, 3204031479, 3329325298]
def ksAt (j : Nat) : UInt32 := ksL.getD j 0
def h0 : St := ⟨0x6a09e667, 0xbb67ae85, 0x3c6ef372, 0xa54ff53a, 0x510e527f, 0x9b05688c, 0x1f83d9ab, 0x5be0cd19⟩

def t1F (s : St) (k m : UInt32) : UInt32 := s.h + gr1 s.e + chF s.e s.f s.g + k + m
def t2F (s : St) : UInt32 := gr0 s.a + majF s.a s.b s.c
def rnd (s : St) (k m : UInt32) : St := ⟨t1F s k m + t2F s, s.a, s.b, s.c, s.d + t1F s k m, s.e, s.f, s.g⟩
def rnds (m : Nat → UInt32) (s : St) : Nat → St
  | 0 => s
  | k + 1 => rnd (rnds m s k) (ksAt k) (m k)
def St.add (x y : St) : St := ⟨x.a + y.a, x.b + y.b, x.c + y.c, x.d + y.d, x.e + y.e, x.f + y.f, x.g + y.g, x.h + y.h⟩

/-- a word of four bytes, the highest first -/
def word4 (a b c d : UInt8) : UInt32 := ((a.toUInt32 <<< UInt32.ofNat 24 ||| b.toUInt32 <<< UInt32.ofNat 16) ||| c.toUInt32 <<< UInt32.ofNat 8) ||| d.toUInt32
def wordAt (b : List UInt8) (t : Nat) : UInt32 := word4 (b.getD (4 * t) 0) (b.getD (4 * t + 1) 0) (b.getD (4 * t + 2) 0) (b.getD (4 * t + 3) 0)
def nextW (l : List UInt32) (t : Nat) : UInt32 := sm1 (l.getD (t - 2) 0) + l.getD (t - 7) 0 + sm0 (l.getD (t - 15) 0) + l.getD (t - 16) 0
/-- the first t words of a block -/
def mL (b : List UInt8) : Nat → List UInt32
  | 0 => []
  | t + 1 => mL b t ++ [if t < 16 then wordAt b t else nextW (mL b t) t]
def mAt (b : List UInt8) (t j : Nat) : UInt32 := (mL b t).getD j 0
set_option maxRecDepth 100000 in
theorem mL_length (b : List UInt8) (t : Nat) : (mL b t).length = t := by
  induction t with
  | zero => rfl
  | succ t ih => rw [mL, List.length_append, ih]; rfl
set_option maxRecDepth 100000 in
theorem mAt_succ (b : List UInt8) (t j : Nat) : mAt b (t + 1) j = if j = t then (if t < 16 then wordAt b t else nextW (mL b t) t) else mAt b t j := by
  unfold mAt
  rw [mL]
  simp only [List.getD_eq_getElem?_getD]
  by_cases h : j = t
  · rw [if_pos h, h, List.getElem?_append_right (by rw [mL_length]; omega), mL_length]
    simp
  · rw [if_neg h]
    by_cases h2 : j < t
    · rw [List.getElem?_append_left (by rw [mL_length]; omega)]
    · rw [List.getElem?_eq_none (by rw [List.length_append, mL_length]; simp; omega), List.getElem?_eq_none (by rw [mL_length]; omega)]
set_option maxRecDepth 100000 in
theorem mAt_low (b : List UInt8) (t j : Nat) (h : t < 16) : mAt b (t + 1) j = if j = t then wordAt b t else mAt b t j := by rw [mAt_succ, if_pos h]
set_option maxRecDepth 100000 in
theorem mAt_high (b : List UInt8) (t j : Nat) (h : ¬ t < 16) : mAt b (t + 1) j = if j = t then sm1 (mAt b t (t - 2)) + mAt b t (t - 7) + sm0 (mAt b t (t - 15)) + mAt b t (t - 16) else mAt b t j := by
  rw [mAt_succ, if_neg h]
  rfl

/-- the words behind a block -/
def compress (s : St) (b : List UInt8) : St := s.add (rnds (mAt b 64) s 64)
/-- the words behind the first n blocks of l -/
def blkN (s : St) (l : List UInt8) : Nat → St
  | 0 => s
  | n + 1 => compress (blkN s l n) ((l.drop (64 * n)).take 64)
set_option maxRecDepth 100000 in
theorem blkN_take (s : St) (l : List UInt8) (n m : Nat) (h : 64 * n ≤ m) : blkN s (l.take m) n = blkN s l n := by
  induction n with
  | zero => rfl
  | succ n ih =>
    rw [blkN, blkN, ih (by omega)]
    congr 1
    rw [List.drop_take, List.take_take, Nat.min_eq_left (by omega)]
set_option maxRecDepth 100000 in
theorem blkN_append (s : St) (l m : List UInt8) (n : Nat) (h : 64 * n ≤ l.length) : blkN s (l ++ m) n = blkN s l n := by
  have e := blkN_take s (l ++ m) n l.length h
  rw [List.take_left'] at e
  · exact e.symm
  · rfl
set_option maxRecDepth 100000 in
theorem blkN_add (s : St) (l : List UInt8) (n k : Nat) : blkN s l (n + k) = blkN (blkN s l n) (l.drop (64 * n)) k := by
  induction k with
  | zero => rfl
  | succ k ih =>
    rw [← Nat.add_assoc, blkN, blkN, ih, List.drop_drop]
    congr 3
    omega
/-- blocks as a loop goes: the state, and what is left -/
def blks (s : St) (l : List UInt8) : St := blkN s l (l.length / 64)
def left (l : List UInt8) : List UInt8 := l.drop (64 * (l.length / 64))
set_option maxRecDepth 100000 in
theorem left_length (l : List UInt8) : (left l).length = l.length % 64 := by
  unfold left
  rw [List.length_drop]
  omega
set_option maxRecDepth 100000 in
/-- in two pieces -/
theorem blks_pieces (s : St) (l m : List UInt8) : blks (blks s l) (left l ++ m) = blks s (l ++ m) ∧ left (left l ++ m) = left (l ++ m) := by
  have hl := left_length l
  have hn : (l ++ m).length / 64 = l.length / 64 + (left l ++ m).length / 64 := by
    rw [List.length_append, List.length_append, hl]
    omega
  have hd : (l ++ m).drop (64 * (l.length / 64)) = left l ++ m := by
    rw [List.drop_append_of_le_length (by omega)]
    rfl
  constructor
  · unfold blks
    rw [hn, blkN_add, hd, blkN_append s l m _ (by omega)]
  · unfold left
    rw [hn, Nat.mul_add, ← List.drop_drop, hd]
    rfl

/-- eight bytes of a number, the highest first -/
def be8 (n : Nat) : List UInt8 := (List.range 8).map fun i => UInt8.ofNat (n / 2 ^ (8 * (7 - i)))
/-- what stands behind n bytes, of which r are left -/
def padL (r n : Nat) : List UInt8 := 128 :: (List.replicate ((64 - (r + 9) % 64) % 64) 0 ++ be8 (8 * n))
def word8 (x : UInt32) : List UInt8 := [UInt8.ofNat (x.toNat / 16777216), UInt8.ofNat (x.toNat / 65536), UInt8.ofNat (x.toNat / 256), UInt8.ofNat x.toNat]
def St.list (s : St) : List UInt32 := [s.a, s.b, s.c, s.d, s.e, s.f, s.g, s.h]
def St.bytes (s : St) : List UInt8 := s.list.flatMap word8
/-- the digest -/
def sumF (s : St) (rest : List UInt8) (n : Nat) : List UInt8 := (blks s (rest ++ padL rest.length n)).bytes
def ofF (b : List UInt8) : List UInt8 := sumF (blks h0 b) (left b) b.length

set_option maxRecDepth 100000 in
theorem pad_total (r n : Nat) : (r + (padL r n).length) % 64 = 0 := by
  unfold padL be8
  simp only [List.length_cons, List.length_append, List.length_replicate, List.length_map, List.length_range]
  omega

set_option maxRecDepth 100000 in
theorem of_nil : ofF [] = [0xe3, 0xb0, 0xc4, 0x42, 0x98, 0xfc, 0x1c, 0x14, 0x9a, 0xfb, 0xf4, 0xc8, 0x99, 0x6f, 0xb9, 0x24, 0x27, 0xae, 0x41, 0xe4, 0x64, 0x9b, 0x93, 0x4c, 0xa4, 0x95, 0x99, 0x1b, 0x78, 0x52, 0xb8, 0x55] := by
  kernel_rfl
end Go.Proofs.Ytplekllhnpljiaa
/- sha.turned: 64 rounds. -/

namespace Go.Proofs.Ytplekllhnpljiaa
open Go.RowKit

/-- the table of keys reads as it is laid -/
def Ks (w : World) : Prop := 0 < w.heap.size ∧ ∀ j, j < 64 → w.cell? ⟨0, j, none⟩ = some (wv (ksAt j))
set_option maxRecDepth 100000 in
theorem Ks.below {w w' : World} {B : Nat} (h : Ks w) (hb : Below B w w') (hB : 0 < B) : Ks w' :=
  ⟨Nat.lt_of_lt_of_le h.1 hb.size, fun j hj => (hb.cell (p := ⟨0, j, none⟩) hB).trans (h.2 j hj)⟩
set_option maxRecDepth 100000 in
theorem below_drewN {B : Nat} {a w : World} (h : Below B a w) (n : Nat) : Below B a (w.drewN n) := ⟨h.os, h.tape, h.output, h.size, h.block⟩

set_option maxRecDepth 100000 in
theorem quiet_left {P : Program} {f : FuncId} {args : Array Value} {w : World} {n : Nat} {v : Value}
    (h : Calls P f args (w.drewN n) fun e w' => e = .returned v ∧ w.drewN n = w') : Calls P f args (w.drewN n) fun e w'' => e = .returned v ∧ ∃ m, w'' = w.drewN m :=
  h.mono fun _ _ ⟨he, hm⟩ => ⟨he, n, hm.symm⟩
set_option maxRecDepth 100000 in
theorem quiet_add_left {P : Program} {f : FuncId} {args : Array Value} {w : World} {a n : Nat} {v : Value}
    (h : Calls P f args (w.drewN (a + n)) fun e w' => e = .returned v ∧ w.drewN (a + n) = w') :
    Calls P f args (w.drewN (a + n)) fun e w'' => e = .returned v ∧ ∃ m, w'' = w.drewN (a + m) :=
  h.mono fun _ _ ⟨he, hm⟩ => ⟨he, n, hm.symm⟩
set_option maxRecDepth 100000 in
theorem Below.setRow {B : Nat} {a w : World} (h : Below B a w) {g : Nat} (hg : B ≤ g) (cs : Array Value) : Below B a (w.setRow g cs) :=
  ⟨h.os, h.tape, h.output, by rw [size_setRow]; exact h.size, fun k hk => (setRow_other w g k cs (by omega)).trans (h.block k hk)⟩
set_option maxRecDepth 100000 in
theorem heap_drewN_at {w : World} {g : Nat} {x : Option Obj} (h : w.heap[g]? = x) (n : Nat) : (w.drewN n).heap[g]? = x := h
set_option maxRecDepth 100000 in
theorem below_at {B : Nat} {a w : World} (h : Below B a w) {w' : World} (e : w = w') : Below B a w' := e ▸ h
set_option maxRecDepth 100000 in
theorem int_eq {k : IntKind} {a b : Int} (h : a = b) : Value.int k a = Value.int k b := by rw [h]
set_option maxRecDepth 100000 in
theorem all8 (s : St) : s.cells.all (·.oneCell') = true := by simp [St.cells, Value.oneCell']
set_option maxRecDepth 100000 in
theorem alloc3 (w : World) (A B C : Obj) : (((w.alloc A).alloc B).alloc C).heap[w.heap.size]? = some A ∧ (((w.alloc A).alloc B).alloc C).heap[w.heap.size + 1]? = some B ∧ (((w.alloc A).alloc B).alloc C).heap[w.heap.size + 1 + 1]? = some C
    ∧ (((w.alloc A).alloc B).alloc C).heap.size = w.heap.size + 1 + 1 + 1 ∧ Below w.heap.size w (((w.alloc A).alloc B).alloc C) := by
  have e1 : (w.alloc A).heap.size = w.heap.size + 1 := by rw [World.size_alloc]
  have e2 : ((w.alloc A).alloc B).heap.size = w.heap.size + 1 + 1 := by rw [World.size_alloc, e1]
  refine ⟨?_, ?_, ?_, by rw [World.size_alloc, e2], ((((Below.refl _ _).alloc (Nat.le_refl _) _).alloc (by omega) _).alloc (by omega) _)⟩
  · rw [heap_alloc_old (h := by omega), heap_alloc_old (h := by omega), heap_alloc_new]
  · rw [heap_alloc_old (h := by omega), ← e1, heap_alloc_new]
  · rw [← e2, heap_alloc_new]

set_option maxRecDepth 100000 in
theorem st_get (s : St) : s.v = .agg #[wv s.a, wv s.b, wv s.c, wv s.d, wv s.e, wv s.f, wv s.g, wv s.h] := rfl
set_option maxRecDepth 100000 in
theorem wv_of {_s : St} {x : Value} (y : UInt32) (h : x = wv y) : x = wv y := h

end Go.Proofs.Ytplekllhnpljiaa
