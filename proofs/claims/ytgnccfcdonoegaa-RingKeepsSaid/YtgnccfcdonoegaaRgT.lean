
/- A ring behind a step, plain (RingKeeps). -/
import Derived.Test.YtgnccfcdonoegaaJ11
namespace Go.Proofs.Ytgnccfcdonoegaa
open Go.RowKit

def doneR (r : Rg) (kd : Nat) (no : Int) (b : UInt8) : Rg × Bool :=
  if kd % 5 = 0 then (if (nextR r).2 = 0 then ((offerR r (nextR r).1 (keyL b)).1, decide ((offerR r (nextR r).1 (keyL b)).2 = 0)) else (r, false))
  else if kd % 5 = 1 then ((offerR r no (keyL b)).1, decide ((offerR r no (keyL b)).2 = 0))
  else if kd % 5 = 2 then ((turnR r).1, decide ((turnR r).2 = 0))
  else if kd % 5 = 3 then (withdrawR r, true) else (tickR r, true)
/-- is a turn made? -/
def turnedR (r : Rg) (kd : Nat) (no : Int) (b : UInt8) : Bool := decide (kd % 5 = 2) && (doneR r kd no b).2
/-- the ticks behind the last turn -/
def tickN (r : Rg) (t : Int) (kd : Nat) (no : Int) (b : UInt8) : Int := (if turnedR r kd no b = true then 0 else t) + (if kd % 5 = 4 then 1 else 0)
def KeepI (r : Rg) (t : Int) (i : Nat) : Prop := RightR r ∧ r ≠ rg0 ∧ 0 ≤ t ∧ t ≤ 99 + i ∧ ((t < 16 ∧ RealG r.old ∧ r.left = 16 - t) ∨ (16 ≤ t ∧ r.old = gn0 ∧ r.left = 0))
set_option maxRecDepth 100000 in
theorem KeepI.new {k : List UInt8} (hk : k.length = 32) : KeepI (newR k).1 99 0 := by
  have e : newR k = (⟨⟨1, k⟩, gn0, gn0, 0, 1⟩, 0) := by unfold newR; rw [if_pos hk]
  refine ⟨new_right, ?_, by omega, by omega, .inr ⟨by omega, by rw [e], by rw [e]⟩⟩
  rw [e]
  intro h
  have h1 : (1 : Int) = 0 := congrArg Rg.top h
  exact absurd h1 (by decide)
set_option maxRecDepth 100000 in
theorem offer_keep (r : Rg) (no : Int) (k : List UInt8) : (offerR r no k).1.cur = r.cur ∧ (offerR r no k).1.old = r.old ∧ (offerR r no k).1.left = r.left ∧ r.top ≤ (offerR r no k).1.top ∧ ((offerR r no k).2 ≠ 0 → (offerR r no k).1 = r) := by
  unfold offerR
  split
  · exact ⟨rfl, rfl, rfl, Int.le_refl _, fun _ => rfl⟩
  · split
    · exact ⟨rfl, rfl, rfl, Int.le_refl _, fun _ => rfl⟩
    · exact ⟨rfl, rfl, rfl, by show r.top ≤ max r.top no; omega, fun h => absurd rfl h⟩
/-- what a step leaves -/
structure KeepS (r : Rg) (t : Int) (i : Nat) (x : Rg) (ok turned : Bool) (t' : Int) : Prop where
  right : RightR x
  same : ok = false → x = r
  find : findR x x.cur.no = (x.cur.key, true)
  cur : r.cur.no ≤ x.cur.no
  top : r.top ≤ x.top
  turn : turned = decide (r.cur.no < x.cur.no)
  turns : turned = true → x.cur.no = r.pend.no ∧ x.old = r.cur
  old : decide (0 < x.old.no) = decide (t' < 16)
  next : KeepI x t' (i + 1)
set_option maxRecDepth 100000 in
theorem find_cur {x : Rg} (h : RightR x) (h0 : x ≠ rg0) : findR x x.cur.no = (x.cur.key, true) := by
  have := (h.cur h0).1
  unfold findR
  rw [if_neg (by omega), if_pos rfl]
set_option maxRecDepth 100000 in
theorem old_dec {x : Rg} {t : Int} (h : (t < 16 ∧ RealG x.old) ∨ (16 ≤ t ∧ x.old = gn0)) : decide (0 < x.old.no) = decide (t < 16) := by
  rcases h with ⟨h1, h2⟩ | ⟨h1, h2⟩
  · rw [decide_eq_true h1, decide_eq_true (by have := h2.1; omega)]
  · rw [decide_eq_false (show ¬ t < 16 by omega), h2]; rfl
set_option maxRecDepth 100000 in
theorem cur_ne {x : Rg} (h : 1 ≤ x.cur.no) : x ≠ rg0 := fun e => by rw [e] at h; exact absurd h (by decide)
set_option maxRecDepth 100000 in
/-- a step that leaves what is in use and what was ahead -/
theorem keep_still {r x : Rg} {t : Int} {i : Nat} (h : KeepI r t i) (hx : RightR x) (h1 : x.cur = r.cur) (h2 : x.old = r.old) (h3 : x.left = r.left) (h4 : r.top ≤ x.top) {ok : Bool} (h5 : ok = false → x = r) : KeepS r t i x ok false t := by
  obtain ⟨a, b, c, d, e⟩ := h
  have hc := (a.cur b).1
  have hn : x ≠ rg0 := cur_ne (by rw [h1]; exact hc)
  refine ⟨hx, h5, find_cur hx hn, by rw [h1]; exact Int.le_refl _, h4, by rw [h1]; simp, fun k => Bool.noConfusion k, ?_, hx, hn, c, by omega, ?_⟩
  · refine old_dec ?_
    rw [h2]
    rcases e with e | e
    · exact .inl ⟨e.1, e.2.1⟩
    · exact .inr ⟨e.1, e.2.1⟩
  · rw [h2, h3]; exact e
set_option maxRecDepth 100000 in
theorem keep_step {r : Rg} {t : Int} {i : Nat} (h : KeepI r t i) (kd : Nat) (no : Int) (b : UInt8) : KeepS r t i (doneR r kd no b).1 (doneR r kd no b).2 (turnedR r kd no b) (tickN r t kd no b) := by
  have h' := h
  obtain ⟨a, hb, c, d, e⟩ := h'
  have hc := (a.cur hb).1
  have a' := a.resolve_left hb
  obtain ⟨a1, a2, a3, a4, a5, a6⟩ := a'
  rcases (show kd % 5 = 0 ∨ kd % 5 = 1 ∨ kd % 5 = 2 ∨ kd % 5 = 3 ∨ kd % 5 = 4 by omega) with k | k | k | k | k
  · have ht : turnedR r kd no b = false := by unfold turnedR; rw [k]; rfl
    have hn : tickN r t kd no b = t := by unfold tickN; rw [ht, k]; simp
    rw [ht, hn]
    unfold doneR
    rw [if_pos k]
    split
    · obtain ⟨o1, o2, o3, o4, o5⟩ := offer_keep r (nextR r).1 (keyL b)
      exact keep_still h (offer_right a _ _) o1 o2 o3 o4 (fun q => o5 (of_decide_eq_false q))
    · exact keep_still h a rfl rfl rfl (Int.le_refl _) (fun _ => rfl)
  · have ht : turnedR r kd no b = false := by unfold turnedR; rw [k]; rfl
    have hn : tickN r t kd no b = t := by unfold tickN; rw [ht, k]; simp
    rw [ht, hn]
    unfold doneR
    rw [if_neg (by omega), if_pos k]
    obtain ⟨o1, o2, o3, o4, o5⟩ := offer_keep r no (keyL b)
    exact keep_still h (offer_right a _ _) o1 o2 o3 o4 (fun q => o5 (of_decide_eq_false q))
  · have hd : doneR r kd no b = ((turnR r).1, decide ((turnR r).2 = 0)) := by unfold doneR; rw [if_neg (by omega), if_neg (by omega), if_pos k]
    have ht : turnedR r kd no b = decide ((turnR r).2 = 0) := by unfold turnedR; rw [hd, k]; simp
    have hn : tickN r t kd no b = if decide ((turnR r).2 = 0) = true then 0 else t := by unfold tickN; rw [ht, k]; simp
    rw [hd, ht, hn]
    by_cases hp : r.pend.no = 0
    · have e9 : turnR r = (r, 9) := by unfold turnR; rw [if_pos hp]
      rw [e9]
      exact keep_still h a rfl rfl rfl (Int.le_refl _) (fun _ => rfl)
    · have e0 : turnR r = (⟨r.pend, r.cur, gn0, 16, r.top⟩, 0) := by unfold turnR; rw [if_neg hp]
      have a6' := a6.resolve_left (fun q => hp (by rw [q]; rfl))
      have hr := turn_right a
      rw [e0] at hr ⊢
      show KeepS r t i _ (decide ((0 : Int) = 0)) (decide ((0 : Int) = 0)) (if decide ((0 : Int) = 0) = true then 0 else t)
      rw [decide_eq_true rfl, if_pos rfl]
      have hn0 : (⟨r.pend, r.cur, gn0, 16, r.top⟩ : Rg) ≠ rg0 := cur_ne a6'.1.1
      exact ⟨hr, fun q => Bool.noConfusion q, find_cur hr hn0, by show r.cur.no ≤ r.pend.no; have := a6'.2; omega, Int.le_refl _, (decide_eq_true a6'.2).symm, fun _ => ⟨rfl, rfl⟩, old_dec (.inl ⟨by omega, a1⟩), hr, hn0, by omega, by omega, .inl ⟨by omega, a1, rfl⟩⟩
  · have ht : turnedR r kd no b = false := by unfold turnedR; rw [k]; rfl
    have hn : tickN r t kd no b = t := by unfold tickN; rw [ht, k]; simp
    rw [ht, hn]
    unfold doneR
    rw [if_neg (by omega), if_neg (by omega), if_neg (by omega), if_pos k]
    exact keep_still h (withdraw_right a) rfl rfl rfl (Int.le_refl _) (fun q => Bool.noConfusion q)
  · have ht : turnedR r kd no b = false := by unfold turnedR; rw [k]; rfl
    have hn : tickN r t kd no b = t + 1 := by unfold tickN; rw [ht, k]; simp
    rw [ht, hn]
    unfold doneR
    rw [if_neg (by omega), if_neg (by omega), if_neg (by omega), if_neg (by omega)]
    have hr := tick_right a
    have hcu : (tickR r).cur = r.cur := by unfold tickR; split <;> rfl
    have hto : (tickR r).top = r.top := by unfold tickR; split <;> rfl
    have hn0 : tickR r ≠ rg0 := cur_ne (by rw [hcu]; exact hc)
    have hE : (t + 1 < 16 ∧ RealG (tickR r).old ∧ (tickR r).left = 16 - (t + 1)) ∨ (16 ≤ t + 1 ∧ (tickR r).old = gn0 ∧ (tickR r).left = 0) := by
      unfold tickR
      rcases e with ⟨e1, e2, e3⟩ | ⟨e1, e2, e3⟩
      · by_cases hl : 1 < r.left
        · rw [if_pos hl]; exact .inl ⟨by omega, e2, by show r.left - 1 = _; omega⟩
        · rw [if_neg hl]; exact .inr ⟨by omega, rfl, rfl⟩
      · rw [if_neg (by omega)]; exact .inr ⟨by omega, rfl, rfl⟩
    refine ⟨hr, fun q => Bool.noConfusion q, find_cur hr hn0, by rw [hcu]; exact Int.le_refl _, by rw [hto]; exact Int.le_refl _, by rw [hcu]; simp, fun q => Bool.noConfusion q, old_dec ?_, hr, hn0, by omega, by omega, hE⟩
    rcases hE with hE | hE
    · exact .inl ⟨hE.1, hE.2.1⟩
    · exact .inr ⟨hE.1, hE.2.1⟩
/-! ### a step in memory -/
def stepC (kd : Nat) (no : Int) (b : Nat) : Array Value := #[.int .u8 (kd : Nat), .int .i64 no, .int .u8 (b : Nat)]
set_option maxRecDepth 100000 in
theorem tyStep : Ty 56 3 := ⟨⟨_, Try.underlying56, rfl⟩, by kernel_rfl⟩
def AnsDn (W' : World) (e : Ending) (r : Rg × Bool) : Prop := ∃ x, e = .returned (.tuple #[.agg (ringC x r.1), .bool r.2]) ∧ RingR W' x r.1
set_option maxRecDepth 100000 in
theorem doneEnd {W w : World} {g : Nat} {x : Wg} {r : Rg} {ok : Bool} {D : Rg × Bool} (hD : D = (r, ok)) (hb : Below W.heap.size W w) (hg : W.heap.size ≤ g) (hx : Bx w g 26 (ringC wg0 rg0)) (hr : RingR w x r) :
    AnsDn (w.setRow g (ringC x r)) (.returned (.tuple #[.agg (ringC x r), .bool ok])) D ∧ Below W.heap.size W (w.setRow g (ringC x r)) := by
  subst hD
  exact ⟨⟨x, rfl, hr.setRow hx (no8_ring _ _)⟩, Below.setRowG hb hg _⟩
end Go.Proofs.Ytgnccfcdonoegaa
