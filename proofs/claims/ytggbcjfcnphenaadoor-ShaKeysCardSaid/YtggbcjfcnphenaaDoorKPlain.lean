/- Products in places of 16 bits, roots, primes: plain, no walk. -/
import Derived.Test.YtggbcjfcnphenaaDoorSha
namespace Go.Proofs.YtggbcjfcnphenaaDoor
open Go.RowKit

/-- one row of a product: o + x * b, shifted by i places; and what is carried -/
def inF (o : List Nat) (x : Nat) (b : List Nat) (i : Nat) : Nat → List Nat × Nat
  | 0 => (o, 0)
  | k + 1 => ((inF o x b i k).1.set (i + k) (((inF o x b i k).1.getD (i + k) 0 + x * b.getD k 0 + (inF o x b i k).2) % 65536), ((inF o x b i k).1.getD (i + k) 0 + x * b.getD k 0 + (inF o x b i k).2) / 65536)
/-- the first i rows of a product -/
def outF (a b : List Nat) : Nat → List Nat
  | 0 => List.replicate (a.length + b.length) 0
  | i + 1 => (inF (outF a b i) (a.getD i 0) b i b.length).1.set (i + b.length) ((inF (outF a b i) (a.getD i 0) b i b.length).1.getD (i + b.length) 0 + (inF (outF a b i) (a.getD i 0) b i b.length).2)
def mulL (a b : List Nat) : List Nat := outF a b a.length

/-- all places are below 65536 -/
def Ok (o : List Nat) : Prop := ∀ j, o.getD j 0 ≤ 65535
theorem getD_set (o : List Nat) (i j v : Nat) : (o.set i v).getD j 0 = if i = j ∧ i < o.length then v else o.getD j 0 := by
  simp only [List.getD_eq_getElem?_getD, List.getElem?_set]
  by_cases h : i = j
  · subst h
    by_cases h2 : i < o.length
    · simp [h2]
    · simp [h2]
  · simp [h]
theorem Ok.set {o : List Nat} (h : Ok o) {i v : Nat} (hv : v ≤ 65535) : Ok (o.set i v) := fun j => by
  rw [getD_set]
  split
  · exact hv
  · exact h j
theorem mul_le {x y : Nat} (hx : x ≤ 65535) (hy : y ≤ 65535) : x * y ≤ 4294836225 := Nat.mul_le_mul hx hy
theorem inF_ok (o : List Nat) (x : Nat) (b : List Nat) (i : Nat) (ho : Ok o) (hx : x ≤ 65535) (hb : Ok b) (k : Nat) :
    Ok (inF o x b i k).1 ∧ (inF o x b i k).2 ≤ 65535 ∧ (inF o x b i k).1.length = o.length ∧ ∀ j, i + k ≤ j → (inF o x b i k).1.getD j 0 = o.getD j 0 := by
  induction k with
  | zero => exact ⟨ho, Nat.zero_le _, rfl, fun _ _ => rfl⟩
  | succ k ih =>
    obtain ⟨h1, h2, h3, h4⟩ := ih
    have hm := mul_le hx (hb k)
    have ho' := h1 (i + k)
    refine ⟨h1.set (by omega), ?_, ?_, fun j hj => ?_⟩
    · show (_ / 65536) ≤ 65535
      omega
    · show (List.set _ _ _).length = _
      rw [List.length_set, h3]
    · show (List.set _ _ _).getD j 0 = _
      rw [getD_set, if_neg (by omega)]
      exact h4 j (by omega)
theorem outF_ok (a b : List Nat) (ha : Ok a) (hb : Ok b) (i : Nat) :
    Ok (outF a b i) ∧ (outF a b i).length = a.length + b.length ∧ ∀ j, i + b.length ≤ j → (outF a b i).getD j 0 = 0 := by
  induction i with
  | zero =>
    have hz : ∀ j, (List.replicate (a.length + b.length) 0).getD j 0 = 0 := fun j => by
      rw [List.getD_eq_getElem?_getD, List.getElem?_replicate]
      split <;> rfl
    exact ⟨fun j => by show (List.replicate _ 0).getD j 0 ≤ _; rw [hz]; omega, by show (List.replicate _ 0).length = _; simp, fun j _ => hz j⟩
  | succ i ih =>
    obtain ⟨h1, h2, h3⟩ := ih
    obtain ⟨k1, k2, k3, k4⟩ := inF_ok (outF a b i) (a.getD i 0) b i h1 (ha i) hb b.length
    have hz := (k4 (i + b.length) (Nat.le_refl _)).trans (h3 _ (Nat.le_refl _))
    refine ⟨?_, ?_, fun j hj => ?_⟩
    · show Ok (List.set _ _ _)
      exact k1.set (by rw [hz]; omega)
    · show (List.set _ _ _).length = _
      rw [List.length_set, k3, h2]
    · show (List.set _ _ _).getD j 0 = _
      rw [getD_set, if_neg (by omega), k4 j (by omega)]
      exact h3 j (by omega)

def digs (x : Nat) : List Nat := [x % 65536, x / 65536 % 65536, x / 4294967296]
/-- a power -/
def rootL (x : Nat) : Nat → List Nat
  | 0 => [1]
  | j + 1 => mulL (rootL x j) (digs x)
theorem digs_ok {x : Nat} (hx : x < 1099511627776) : Ok (digs x) := fun j => by
  match j with
  | 0 => show x % 65536 ≤ _; omega
  | 1 => show x / 65536 % 65536 ≤ _; omega
  | 2 => show x / 4294967296 ≤ _; omega
  | j + 3 => show 0 ≤ _; omega
theorem rootL_ok {x : Nat} (hx : x < 1099511627776) (j : Nat) : Ok (rootL x j) ∧ (rootL x j).length = 1 + 3 * j := by
  induction j with
  | zero => exact ⟨fun j => by match j with | 0 => show 1 ≤ _; omega | j + 1 => show 0 ≤ _; omega, rfl⟩
  | succ j ih =>
    have h := outF_ok (rootL x j) (digs x) ih.1 (digs_ok hx) (rootL x j).length
    refine ⟨h.1, ?_⟩
    show (outF _ _ _).length = _
    rw [h.2.1, ih.2]
    show 1 + 3 * j + 3 = _
    omega
/-- places from j - 1 down to 0, against p at one place and noughts elsewhere -/
def cmp (l : List Nat) (at_ p : Nat) : Nat → Bool
  | 0 => true
  | j + 1 => if l.getD j 0 = (if j = at_ then p else 0) then cmp l at_ p j else decide (l.getD j 0 < (if j = at_ then p else 0))
def rootB (x p power : Nat) : Bool := cmp (rootL x power) (2 * power) p (1 + 3 * power)

/-- no divisor from d on whose square is at most n -/
def nd (n : Nat) : Nat → Nat → Bool
  | 0, _ => true
  | f + 1, d => if d * d ≤ n then (if n % d = 0 then false else nd n f (d + 1)) else true
def primeB (n : Nat) : Bool := nd n n 2

def prL : List Nat := [2, 3, 5, 7, 11, 13, 17, 19, 23, 29, 31, 37, 41, 43, 47, 53, 59, 61, 67, 71, 73, 79, 83, 89, 97, 101, 103, 107, 109, 113, 127, 131, 137, 139, 149, 151, 157, 163, 167, 173, 179, 181, 191, 193, 197, 199, 211, 223, 227, 229, 233, 239, 241, 251, 257, 263, 269, 271, 277, 281, 283, 293, 307, 311]
def prAt (j : Nat) : Nat := prL.getD j 0
def chkP (j : Nat) : Bool := decide (prAt j < prAt (j + 1)) && decide (prAt (j + 1) ≤ 311) && primeB (prAt (j + 1)) && (List.range (prAt (j + 1) - prAt j - 1)).all fun d => !primeB (prAt j + 1 + d)
def whole3 (p : Nat) : Nat := if p < 8 then 1 else if p < 27 then 2 else if p < 64 then 3 else if p < 125 then 4 else if p < 216 then 5 else 6
def whole2 (p : Nat) : Nat := if p < 4 then 1 else if p < 9 then 2 else if p < 16 then 3 else 4
def chkR (x p power m : Nat) : Bool := (List.range m).all (fun j => rootB (x + (j + 1) * 4294967296) p power) && !rootB (x + (m + 1) * 4294967296) p power && rootB (x + m * 4294967296) p power && !rootB (x + m * 4294967296 + 1) p power
set_option maxRecDepth 100000 in
theorem all_p : (List.range 63).all chkP = true := by kernel_rfl
set_option maxRecDepth 100000 in
theorem all_3 : (List.range 64).all (fun j => chkR (ksAt j).toNat (prAt j) 3 (whole3 (prAt j))) = true := by kernel_rfl
set_option maxRecDepth 100000 in
theorem all_2 : ([h0.a, h0.b, h0.c, h0.d, h0.e, h0.f, h0.g, h0.h].zip prL).all (fun x => chkR x.1.toNat x.2 2 (whole2 x.2)) = true := by kernel_rfl
end Go.Proofs.YtggbcjfcnphenaaDoor
