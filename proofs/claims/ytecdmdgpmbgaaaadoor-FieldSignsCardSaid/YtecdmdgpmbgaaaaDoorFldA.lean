
/- Fields, plain: forms, values, a value's bytes, and the value at a place. -/
import Derived.Test.YtecdmdgpmbgaaaaDoorRef3
namespace Go.Proofs.YtecdmdgpmbgaaaaDoor
open Go.RowKit

/-- a kind, a length, and the fields that have both -/
def rowsF : List (Nat × Nat × List Int) :=
  [(1, 2, [25]), (1, 3, [22, 49, 70]), (1, 4, [13, 14, 18]), (1, 6, [3, 11, 12, 15]), (1, 10, [7]), (1, 12, [4]), (1, 16, [53]), (1, 42, [90]), (2, 19, [2]), (2, 11, [32, 100]), (3, 12, [37]), (3, 6, [38]), (3, 2, [39]), (3, 8, [41]), (3, 15, [42]), (3, 42, [95]), (4, 37, [35]), (4, 28, [102]), (5, 400, [48]), (5, 120, [54]), (6, 8, [52, 64, 96, 128]), (7, 255, [55]), (7, 400, [127])]
def findF (no : Int) : List (Nat × Nat × List Int) → Nat × Nat
  | [] => (0, 0)
  | (k, n, l) :: r => if no ∈ l then (k, n) else findF no r
/-- a field's kind (0: there is none), and its length -/
def fk (no : Int) : Nat := (findF no rowsF).1
def fl (no : Int) : Nat := (findF no rowsF).2
theorem findF_in (no : Int) : ∀ r : List (Nat × Nat × List Int), findF no r = (0, 0) ∨ ∃ x ∈ r, findF no r = (x.1, x.2.1) ∧ no ∈ x.2.2
  | [] => .inl rfl
  | (k, n, l) :: r => by
    unfold findF
    by_cases h : no ∈ l
    · rw [if_pos h]
      exact .inr ⟨(k, n, l), List.mem_cons_self, rfl, h⟩
    · rw [if_neg h]
      rcases findF_in no r with h1 | ⟨x, hx, h2, h3⟩
      · exact .inl h1
      · exact .inr ⟨x, List.mem_cons_of_mem _ hx, h2, h3⟩
/-- what all forms have -/
theorem form_bd (no : Int) : fk no = 0 ∧ fl no = 0 ∨ (1 ≤ fk no ∧ fk no ≤ 7 ∧ 1 ≤ fl no ∧ fl no ≤ 400 ∧ (fk no = 2 ∨ fk no = 4 → fl no ≤ 37)) := by
  unfold fk fl
  rcases findF_in no rowsF with h | ⟨x, hx, h, -⟩
  · rw [h]; exact .inl ⟨rfl, rfl⟩
  · rw [h]
    right
    have hall : rowsF.all (fun x => decide (1 ≤ x.1 ∧ x.1 ≤ 7 ∧ 1 ≤ x.2.1 ∧ x.2.1 ≤ 400 ∧ (x.1 = 2 ∨ x.1 = 4 → x.2.1 ≤ 37))) = true := by decide
    exact of_decide_eq_true (List.all_eq_true.1 hall x hx)

/-- a sign of a value -/
def sgnF (k : Nat) (c : UInt8) : Bool := if k ≤ 2 then isFig c else if k ≤ 5 then decide (32 ≤ c.toNat) && decide (c.toNat ≤ 126) else true
def lenF (k n m : Nat) : Bool := if k = 1 ∨ k = 3 ∨ k = 6 then decide (m = n) else decide (1 ≤ m) && decide (m ≤ n)
/-- a value of a form -/
def fitF (k n : Nat) (v : List UInt8) : Bool := v.all (sgnF k) && lenF k n v.length
def fitsF (no : Int) (v : List UInt8) : Bool := fitF (fk no) (fl no) v
/-- how many figures tell how many there are -/
def cntF (k : Nat) : Nat := if k = 2 ∨ k = 4 then 2 else if k = 5 ∨ k = 7 then 3 else 0
def headF (k m : Nat) : List UInt8 := if 0 < cntF k then packL gFig (dgL 48 10 m (cntF k)) else []
def bodyF (k : Nat) (v : List UInt8) : List UInt8 := if k ≤ 2 then packL gFig v else v
def outF5 (k : Nat) (v : List UInt8) : List UInt8 := headF k v.length ++ bodyF k v
def writeL (no : Int) (v : List UInt8) : List UInt8 := if fitsF no v = true then outF5 (fk no) v else []
def writeE (no : Int) (v : List UInt8) : Int := if fk no = 0 then 12 else if fitsF no v = true then 0 else 1
def sizeF (k m : Nat) : Nat := if k ≤ 2 then (m + 1) / 2 else m
/-- m signs at the place q -/
def readB (k n : Nat) (b : List UInt8) (q m : Nat) : List UInt8 × Int × Int :=
  if b.length < q + sizeF k m then ([], 0, 3)
  else if k ≤ 2 then
    (if (tbS b q m).2.2 = 0 then (if fitF k n (tbS b q m).1 = true then ((tbS b q m).1, ((q + sizeF k m : Nat) : Int), 0) else ([], 0, 2)) else ([], 0, 2))
  else if fitF k n ((b.drop q).take m) = true then ((b.drop q).take m, ((q + sizeF k m : Nat) : Int), 0) else ([], 0, 2)
def readH (k n : Nat) (b : List UInt8) (q : Nat) : List UInt8 × Int × Int :=
  if 0 < cntF k then
    (if (tbS b q (cntF k : Nat)).2.2 = 0 then
      (if val (tbS b q (cntF k : Nat)).1 < 1 ∨ n < val (tbS b q (cntF k : Nat)).1 then ([], 0, 2)
       else readB k n b (q + (cntF k + 1) / 2) (val (tbS b q (cntF k : Nat)).1))
     else ([], 0, (tbS b q (cntF k : Nat)).2.2))
  else readB k n b q n
def readF (no : Int) (b : List UInt8) (at_ : Int) : List UInt8 × Int × Int :=
  if fk no = 0 then ([], 0, 12) else if at_ < 0 ∨ (b.length : Int) < at_ then ([], 0, 1) else readH (fk no) (fl no) b at_.toNat

theorem fits_none {no : Int} {v : List UInt8} (h : fk no = 0) : fitsF no v = false := by
  have hl : fl no = 0 := by rcases form_bd no with h1 | h1 <;> omega
  unfold fitsF fitF lenF
  rw [h, hl, if_neg (by omega)]
  have e : (decide (1 ≤ v.length) && decide (v.length ≤ 0)) = false := by
    by_cases h1 : 1 ≤ v.length
    · rw [decide_eq_false (show ¬ v.length ≤ 0 by omega), Bool.and_false]
    · rw [decide_eq_false h1, Bool.false_and]
  rw [e, Bool.and_false]
theorem fit_len {k n : Nat} {v : List UInt8} (h : fitF k n v = true) (hn : 1 ≤ n) : 1 ≤ v.length ∧ v.length ≤ n := by
  unfold fitF lenF at h
  rw [Bool.and_eq_true] at h
  obtain ⟨-, h⟩ := h
  split at h
  · have := of_decide_eq_true h; omega
  · rw [Bool.and_eq_true] at h
    exact ⟨of_decide_eq_true h.1, of_decide_eq_true h.2⟩
theorem fit_sgn {k n : Nat} {v : List UInt8} (h : fitF k n v = true) : v.all (sgnF k) = true := by
  unfold fitF at h
  rw [Bool.and_eq_true] at h
  exact h.1
theorem fit_fig {k n : Nat} {v : List UInt8} (h : fitF k n v = true) (hk : k ≤ 2) : allFig v = true := by
  have h1 := fit_sgn h
  unfold allFig
  rw [List.all_eq_true] at h1 ⊢
  intro c hc
  have h2 := h1 c hc
  unfold sgnF at h2
  rwa [if_pos hk] at h2
theorem fig_sgn {k : Nat} {v : List UInt8} (h : allFig v = true) (hk : k ≤ 2) : v.all (sgnF k) = true := by
  unfold allFig at h
  rw [List.all_eq_true] at h ⊢
  intro c hc
  unfold sgnF
  rw [if_pos hk]
  exact h c hc
theorem head_length (k m : Nat) : (headF k m).length = (cntF k + 1) / 2 := by
  unfold headF
  split
  · rw [packL_length]; simp [dgL]
  · have : cntF k = 0 := by omega
    rw [this]; rfl
theorem body_length (k : Nat) (v : List UInt8) : (bodyF k v).length = sizeF k v.length := by
  unfold bodyF sizeF
  split
  · rw [packL_length]
  · rfl
theorem out5_length (k : Nat) (v : List UInt8) : (outF5 k v).length = (cntF k + 1) / 2 + sizeF k v.length := by
  unfold outF5
  rw [List.length_append, head_length, body_length]
end Go.Proofs.YtecdmdgpmbgaaaaDoor
