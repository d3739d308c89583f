
/- Questions, plain. -/
import Derived.Test.YtegekmgelnkdbaaPure
namespace Go.Proofs.Ytegekmgelnkdbaa
open Go.RowKit

structure Aq where
  code : Int
  stan : Int
  due : Int
  left : Int
  body : List UInt8
def aq0 : Aq := ⟨0, 0, 0, 0, []⟩
set_option maxRecDepth 100000 in
theorem Aq.ext' {a b : Aq} (h1 : a.code = b.code) (h2 : a.stan = b.stan) (h3 : a.due = b.due) (h4 : a.left = b.left) (h5 : a.body = b.body) : a = b := by
  cases a; cases b; simp only at h1 h2 h3 h4 h5; subst h1 h2 h3 h4 h5; rfl
instance : DecidableEq Aq := fun a b => decidable_of_iff (a.code = b.code ∧ a.stan = b.stan ∧ a.due = b.due ∧ a.left = b.left ∧ a.body = b.body)
  ⟨fun k => Aq.ext' k.1 k.2.1 k.2.2.1 k.2.2.2.1 k.2.2.2.2, fun k => by subst k; exact ⟨rfl, rfl, rfl, rfl, rfl⟩⟩
def B64a (x : Int) : Prop := -9223372036854775808 ≤ x ∧ x ≤ 9223372036854775807
def Aq64 (a : Aq) : Prop := B64a a.code ∧ B64a a.stan ∧ B64a a.due ∧ B64a a.left
def stanA (n : Int) : Int := if 0 ≤ n ∧ n ≤ 999998 then n + 1 else 1
def knownA (c : Int) : Bool := decide (c = 1 ∨ c = 2 ∨ c = 101 ∨ c = 201 ∨ c = 301)
def NoneA (a : Aq) : Prop := a.code = 0 ∧ a.stan = 0 ∧ a.due = 0 ∧ a.left = 0 ∧ a.body.length = 0
instance (a : Aq) : Decidable (NoneA a) := by unfold NoneA; infer_instance
def FitsA (c s : Int) (n : Nat) : Prop := knownA c = true ∧ 1 ≤ s ∧ s ≤ 999999 ∧ 1 ≤ n ∧ n ≤ 900
instance (c s : Int) (n : Nat) : Decidable (FitsA c s n) := by unfold FitsA; infer_instance
def RightA (a : Aq) : Prop := NoneA a ∨ (FitsA a.code a.stan a.body.length ∧ 1 ≤ a.due ∧ a.due ≤ 8 ∧ 0 ≤ a.left ∧ a.left ≤ 3)
instance (a : Aq) : Decidable (RightA a) := by unfold RightA; infer_instance
def beginA (c s : Int) (b : List UInt8) : Aq × Int := if FitsA c s b.length then (⟨c, s, 8, 3, b⟩, 0) else (aq0, 1)
/-- behind a tick; asked again; given up -/
def tickA (a : Aq) : Aq × Bool × Bool :=
  if NoneA a then (a, false, false)
  else if 1 < a.due then ({ a with due := a.due - 1 }, false, false)
  else if 0 < a.left then ({ a with left := a.left - 1, due := 8 }, true, false)
  else (aq0, false, true)
def MatchA (a : Aq) (c s : Int) : Prop := ¬ NoneA a ∧ a.code = c ∧ a.stan = s
instance (a : Aq) (c s : Int) : Decidable (MatchA a c s) := by unfold MatchA; infer_instance
set_option maxRecDepth 100000 in
theorem none_is {a : Aq} : NoneA a ↔ a = aq0 := ⟨fun h => Aq.ext' h.1 h.2.1 h.2.2.1 h.2.2.2.1 (List.eq_nil_of_length_eq_zero h.2.2.2.2), fun h => by rw [h]; exact ⟨rfl, rfl, rfl, rfl, rfl⟩⟩
set_option maxRecDepth 100000 in
theorem right_none : RightA aq0 := .inl ⟨rfl, rfl, rfl, rfl, rfl⟩
set_option maxRecDepth 100000 in
theorem known_64 {c : Int} (h : knownA c = true) : 1 ≤ c ∧ c ≤ 301 := by
  have h1 : c = 1 ∨ c = 2 ∨ c = 101 ∨ c = 201 ∨ c = 301 := of_decide_eq_true h
  omega
set_option maxRecDepth 100000 in
theorem RightA.few {a : Aq} (h : RightA a) : a.body.length ≤ 900 := by
  rcases h with h | h
  · rw [h.2.2.2.2]; decide
  · exact h.1.2.2.2.2
set_option maxRecDepth 100000 in
theorem RightA.s64 {a : Aq} (h : RightA a) : Aq64 a := by
  rcases h with ⟨h1, h2, h3, h4, -⟩ | ⟨⟨h1, h2, h3, -⟩, h4, h5, h6, h7⟩
  · exact ⟨⟨by omega, by omega⟩, ⟨by omega, by omega⟩, ⟨by omega, by omega⟩, ⟨by omega, by omega⟩⟩
  · have := known_64 h1
    exact ⟨⟨by omega, by omega⟩, ⟨by omega, by omega⟩, ⟨by omega, by omega⟩, ⟨by omega, by omega⟩⟩
set_option maxRecDepth 100000 in
theorem tickA_right {a : Aq} (h : RightA a) : RightA (tickA a).1 := by
  unfold tickA
  split
  · exact h
  · rename_i hn
    rcases h with h | ⟨h1, h2, h3, h4, h5⟩
    · exact absurd h hn
    · split
      · exact .inr ⟨h1, by show 1 ≤ a.due - 1; omega, by show a.due - 1 ≤ 8; omega, h4, h5⟩
      · split
        · exact .inr ⟨h1, by show (1 : Int) ≤ 8; decide, by show (8 : Int) ≤ 8; decide, by show 0 ≤ a.left - 1; omega, by show a.left - 1 ≤ 3; omega⟩
        · exact right_none
set_option maxRecDepth 100000 in
theorem begin_right (c s : Int) (b : List UInt8) : RightA (beginA c s b).1 := by
  unfold beginA
  split
  · rename_i h; exact .inr ⟨h, (by decide : (1 : Int) ≤ 8), (by decide : (8 : Int) ≤ 8), (by decide : (0 : Int) ≤ 3), (by decide : (3 : Int) ≤ 3)⟩
  · exact right_none
/-! ### AskEnds -/
/-- a question that isn't answered, behind i ticks -/
def ticksA (a : Aq) : Nat → Aq
  | 0 => a
  | i + 1 => (tickA (ticksA a i)).1
/-- of a right question (none: 0): in how many ticks it is given up -/
def endA (a : Aq) : Int := a.due + 8 * a.left
set_option maxRecDepth 100000 in
theorem tick_none : tickA aq0 = (aq0, false, false) := rfl
set_option maxRecDepth 100000 in
/-- one tick of a question: what it is, and when it is asked again -/
theorem tick_some {a : Aq} (h : RightA a) (hn : ¬ NoneA a) : 1 ≤ endA a ∧ endA a ≤ 32 ∧
    (if endA a = 1 then tickA a = (aq0, false, true)
     else ∃ b, (tickA a) = (b, decide (a.due = 1), false) ∧ RightA b ∧ ¬ NoneA b ∧ endA b = endA a - 1 ∧ b.code = a.code ∧ b.stan = a.stan ∧ b.body = a.body ∧ b.left = (if a.due = 1 then a.left - 1 else a.left)) := by
  have hr := h
  rcases h with h | ⟨h1, h2, h3, h4, h5⟩
  · exact absurd h hn
  have hk := known_64 h1.1
  refine ⟨by unfold endA; omega, by unfold endA; omega, ?_⟩
  have hnn : ∀ b : Aq, b.code = a.code → ¬ NoneA b := fun b hb k => by have := k.1; omega
  split
  · rename_i he
    unfold endA at he
    unfold tickA
    rw [if_neg hn, if_neg (by omega), if_neg (by omega)]
  · rename_i he
    unfold endA at he
    by_cases hd : 1 < a.due
    · refine ⟨{ a with due := a.due - 1 }, ?_, .inr ⟨h1, by show 1 ≤ a.due - 1; omega, by show a.due - 1 ≤ 8; omega, h4, h5⟩, hnn _ rfl, by unfold endA; show a.due - 1 + 8 * a.left = _; omega, rfl, rfl, rfl, ?_⟩
      · unfold tickA
        rw [if_neg hn, if_pos hd, decide_eq_false (by omega)]
      · rw [if_neg (by omega)]
    · refine ⟨{ a with left := a.left - 1, due := 8 }, ?_, .inr ⟨h1, by show (1 : Int) ≤ 8; decide, by show (8 : Int) ≤ 8; decide, by show 0 ≤ a.left - 1; omega, by show a.left - 1 ≤ 3; omega⟩, hnn _ rfl, by unfold endA; show 8 + 8 * (a.left - 1) = _; omega, rfl, rfl, rfl, ?_⟩
      · unfold tickA
        rw [if_neg hn, if_neg hd, if_pos (by omega), decide_eq_true (by omega)]
      · rw [if_pos (by omega)]
/-- what the loop of AskEnds keeps behind i ticks (a: the first question; x: the present one; left: how often it is still to be asked) -/
def EndI (a x : Aq) (left : Int) (i : Int) : Prop := RightA x ∧ (if i < endA a then ¬ NoneA x ∧ endA x = endA a - i ∧ x.code = a.code ∧ x.stan = a.stan ∧ x.body = a.body ∧ x.left = left else x = aq0 ∧ left = 0)
set_option maxRecDepth 100000 in
theorem ends_step {a x : Aq} {left i : Int} (ha : RightA a) (hna : ¬ NoneA a) (h : EndI a x left i) (hi : 0 ≤ i) :
    ∃ y ag gv, tickA x = (y, ag, gv) ∧ ag = decide (a.due ≤ i + 1 ∧ (i + 1 - a.due) % 8 = 0 ∧ i + 1 < endA a) ∧ gv = decide (i + 1 = endA a) ∧ (i + 1 < endA a → MatchA y a.code a.stan ∧ y.body = a.body) ∧ (endA a ≤ i + 1 → NoneA y) ∧ EndI a y (if ag = true then left - 1 else left) (i + 1) := by
  obtain ⟨hr, h⟩ := h
  by_cases hl : i < endA a
  · rw [if_pos hl] at h
    obtain ⟨hn, he, hc, hs, hb, hle⟩ := h
    obtain ⟨t1, t2, t3⟩ := tick_some hr hn
    by_cases h1 : endA x = 1
    · rw [if_pos h1] at t3
      refine ⟨aq0, false, true, t3, ?_, ?_, fun k => by omega, fun _ => ⟨rfl, rfl, rfl, rfl, rfl⟩, right_none, ?_⟩
      · rw [decide_eq_false (by omega)]
      · rw [decide_eq_true (by omega)]
      · rw [if_neg (show ¬ i + 1 < endA a by omega)]
        refine ⟨rfl, ?_⟩
        rw [if_neg (by decide), ← hle]
        rcases hr with k | ⟨k1, k2, k3, k4, k5⟩
        · exact absurd k hn
        · unfold endA at h1; omega
    · rw [if_neg h1] at t3
      obtain ⟨b, e1, b1, b2, b3, b4, b5, b6, b7⟩ := t3
      refine ⟨b, _, _, e1, ?_, ?_, fun _ => ⟨⟨b2, b4.trans hc, b5.trans hs⟩, b6.trans hb⟩, fun k => by omega, b1, ?_⟩
      · rw [Bool.eq_iff_iff, decide_eq_true_eq, decide_eq_true_eq]
        rcases hr with k | ⟨k1, k2, k3, k4, k5⟩
        · exact absurd k hn
        rcases ha with q | ⟨q1, q2, q3, q4, q5⟩
        · exact absurd q hna
        unfold endA at he hl h1 ⊢
        constructor
        · intro hd; omega
        · rintro ⟨d1, d2, d3⟩; omega
      · rw [decide_eq_false (by omega)]
      · rw [if_pos (show i + 1 < endA a by omega)]
        refine ⟨b2, by omega, b4.trans hc, b5.trans hs, b6.trans hb, ?_⟩
        rw [b7, ← hle]
        by_cases hd : x.due = 1
        · rw [if_pos hd, if_pos (by rw [decide_eq_true hd])]
        · rw [if_neg hd, if_neg (by rw [decide_eq_false hd]; decide)]
  · rw [if_neg hl] at h
    obtain ⟨rfl, rfl⟩ := h
    refine ⟨aq0, false, false, tick_none, ?_, ?_, fun k => by omega, fun _ => ⟨rfl, rfl, rfl, rfl, rfl⟩, right_none, ?_⟩
    · rw [decide_eq_false (by omega)]
    · rw [decide_eq_false (by omega)]
    · rw [if_neg (show ¬ i + 1 < endA a by omega)]
      exact ⟨rfl, by simp⟩
/-! ### AskBegins -/
/-- what its loop keeps: behind i ticks, asked again so often -/
def BegI (a x : Aq) (asked i : Int) : Prop := EndI a x (3 - asked) i
/-! ### AskStans -/
set_option maxRecDepth 100000 in
theorem stan_in (n : Int) : 1 ≤ stanA n ∧ stanA n ≤ 999999 := by unfold stanA; split <;> omega
set_option maxRecDepth 100000 in
theorem stan_step {s k t : Int} (_hs : 1 ≤ s ∧ s ≤ 999999) (_hk : 0 ≤ k ∧ k ≤ 255) (ht : t = (s - 1 + k) % 999999 + 1) : stanA t = (s - 1 + (k + 1)) % 999999 + 1 := by
  unfold stanA
  split <;> omega
end Go.Proofs.Ytegekmgelnkdbaa
