
/- A table of pairs in memory, read as a list; a provider's value. -/
import Derived.Test.YtcfncbbdlbdbnaaDoorMat
import Derived.Deep.SlicePairs
namespace Go.Proofs.YtcfncbbdlbdbnaaDoor
open Go.ChangeShapes Go.WideShapes Go.ChangeAt Go.RowKit

abbrev Pr := List UInt8 × List UInt8
/-- the value reads as an entry -/
def Ent (w : World) (B : Nat) (v : Value) (p : Pr) : Prop := ∃ A c A' c', v = .agg #[.slice A p.1.length c, .slice A' p.2.length c'] ∧ p.1.length ≤ c ∧ c ≤ 9223372036854775807 ∧ p.2.length ≤ c' ∧ c' ≤ 9223372036854775807 ∧ Rd w B A p.1 ∧ Rd w B A' p.2
theorem Ent.below {w w' : World} {B B' : Nat} {v : Value} {p : Pr} (h : Ent w B v p) (hb : Below B' w w') (hB : B ≤ B') : Ent w' B v p := by
  obtain ⟨A, c, A', c', e, h1, h2, h3, h4, h5, h6⟩ := h
  exact ⟨A, c, A', c', e, h1, h2, h3, h4, h5.below hb hB, h6.below hb hB⟩
/-- the slice at the address A reads as the pairs l, below block B -/
def Tab (w : World) (B : Nat) (A : Option Addr) (l : List Pr) : Prop :=
  0 < l.length → ∃ b o, A = some ⟨b, o, none⟩ ∧ b < B ∧ ∀ j (h : j < l.length), ∃ A1 c1 A2 c2, w.cell? ⟨b, o + j * 2, none⟩ = some (.slice A1 l[j].1.length c1) ∧ w.cell? ⟨b, o + j * 2 + 1, none⟩ = some (.slice A2 l[j].2.length c2) ∧
    l[j].1.length ≤ c1 ∧ c1 ≤ 9223372036854775807 ∧ l[j].2.length ≤ c2 ∧ c2 ≤ 9223372036854775807 ∧ Rd w B A1 l[j].1 ∧ Rd w B A2 l[j].2
theorem Tab.below {w w' : World} {B B' : Nat} {A : Option Addr} {l : List Pr} (h : Tab w B A l) (hb : Below B' w w') (hB : B ≤ B') : Tab w' B A l := by
  intro h0
  obtain ⟨b, o, e, h1, h2⟩ := h h0
  refine ⟨b, o, e, h1, fun j hj => ?_⟩
  obtain ⟨A1, c1, A2, c2, f1, f2, f3, f4, f5, f6, f7, f8⟩ := h2 j hj
  exact ⟨A1, c1, A2, c2, (hb.cell (p := ⟨b, o + j * 2, none⟩) (by show b < B'; omega)).trans f1, (hb.cell (p := ⟨b, o + j * 2 + 1, none⟩) (by show b < B'; omega)).trans f2, f3, f4, f5, f6, f7.below hb hB, f8.below hb hB⟩
theorem Tab.more {w : World} {B B' : Nat} {A : Option Addr} {l : List Pr} (h : Tab w B A l) (hB : B ≤ B') : Tab w B' A l := by
  intro h0
  obtain ⟨b, o, e, h1, h2⟩ := h h0
  refine ⟨b, o, e, by omega, fun j hj => ?_⟩
  obtain ⟨A1, c1, A2, c2, f1, f2, f3, f4, f5, f6, f7, f8⟩ := h2 j hj
  exact ⟨A1, c1, A2, c2, f1, f2, f3, f4, f5, f6, f7.more hB, f8.more hB⟩
theorem Tab.nil {w : World} {B : Nat} {A : Option Addr} : Tab w B A [] := fun h => absurd h (by simp)

theorem tab_in {H : Type} {enc : TypeId × Value → H} {W : World} {base fuel : Nat} {spare : Nat → Bool} {held : Bool} {a : Option Addr} {n c : Nat} {y : DataW H × List MemPlace}
    (hf : DataW.trod enc Tryd.prog W base spare held fuel 22 [.slice a n c] = some y) : ∃ l : List Pr, n = l.length ∧ l.length ≤ c ∧ c ≤ 9223372036854775807 ∧ Tab W W.heap.size a l := by
  rcases Go.Deep.open_slice_pairs Tryd.underlying22 Tryd.underlying59 (by kernel_rfl) rfl rfl (by kernel_rfl) (by kernel_rfl) hf with ⟨hcs, _⟩ | ⟨x, len, cap, m, k, V0, V1, D0, D1, P0, P1, hcs, hb, hl, hm, hmm, _, hrow⟩
  · simp at hcs
    obtain ⟨rfl, rfl, rfl⟩ := hcs
    exact ⟨[], rfl, by simp, by omega, Tab.nil⟩
  · simp at hcs
    obtain ⟨rfl, rfl, rfl⟩ := hcs
    have hnm : n ≤ m := by rw [hmm]; split <;> omega
    have each : ∀ j, j < n → ∃ p : Pr, ∃ A1 c1 A2 c2, V0 j = .slice A1 p.1.length c1 ∧ V1 j = .slice A2 p.2.length c2 ∧ p.1.length ≤ c1 ∧ c1 ≤ 9223372036854775807 ∧ p.2.length ≤ c2 ∧ c2 ≤ 9223372036854775807 ∧ Rd W W.heap.size A1 p.1 ∧ Rd W W.heap.size A2 p.2 := by
      intro j hj
      obtain ⟨_, _, g0, g1⟩ := hrow j (by omega)
      have g0' : DataW.trod enc Tryd.prog W base spare held k 25 [V0 j] = _ := g0
      have g1' : DataW.trod enc Tryd.prog W base spare held k 25 [V1 j] = _ := g1
      obtain ⟨A1, m1, c1, e1⟩ := Go.Joins.slice_form Tryd.underlying25 g0'
      obtain ⟨A2, m2, c2, e2⟩ := Go.Joins.slice_form Tryd.underlying25 g1'
      simp only [List.cons.injEq, and_true] at e1 e2
      rw [e1] at g0' ⊢
      rw [e2] at g1' ⊢
      obtain ⟨p1, rfl, q1, q2, q3⟩ := bytes_in g0'
      obtain ⟨p2, rfl, r1, r2, r3⟩ := bytes_in g1'
      exact ⟨(p1, p2), A1, c1, A2, c2, rfl, rfl, q1, q2, r1, r2, q3, r3⟩
    obtain ⟨f, hfe⟩ := Go.Deep.choose_lt each
    refine ⟨(List.range n).map f, by simp, by simpa using hl, by simpa [maxLen] using hm, fun h0 => ?_⟩
    have h0' : 0 < n := by simpa using h0
    obtain ⟨b, o, spot⟩ := x
    have hc0 := (hrow 0 (by omega)).1
    have hspot : spot = none := by simpa [Addr.add] using World.cell?_spot hc0
    subst hspot
    refine ⟨b, o, rfl, World.block_lt_of_cell? W ⟨b, o, none⟩ (by simpa [Addr.add] using hc0), fun j hj => ?_⟩
    have hj' : j < n := by simpa using hj
    obtain ⟨k0, k1, _, _⟩ := hrow j (by omega)
    obtain ⟨A1, c1, A2, c2, e1, e2, h3, h4, h5, h6, h7, h8⟩ := hfe j hj'
    rw [Addr.add_lit, e1] at k0
    rw [Addr.add_lit, e2] at k1
    have hg : ((List.range n).map f)[j] = f j := by simp
    rw [hg]
    exact ⟨A1, c1, A2, c2, k0, k1, h3, h4, h5, h6, h7, h8⟩

/-- the table behind a tag -/
def tabF (l : List Pr) (k b : List UInt8) : List Pr := if (k, b) ∈ l then l else l ++ [(k, b)]
/-- a call's answer: a provider -/
def AnsP (W' : World) (e : Ending) (i : Bool) (l : List Pr) (f : Bool) : Prop := ∃ A c, e = .returned (.agg #[.bool i, .slice A l.length c, .bool f]) ∧ l.length ≤ c ∧ c ≤ 9223372036854775807 ∧ Tab W' W'.heap.size A l
/-- the pairs as values, each with what it reads as -/
def Ep (w : World) (B : Nat) : Type := { x : Value × Pr // Ent w B x.1 x.2 }
theorem tab_eps {w : World} {B : Nat} {b o : Nat} {l : List Pr} (h : ∀ j (h : j < l.length), ∃ A1 c1 A2 c2, w.cell? ⟨b, o + j * 2, none⟩ = some (.slice A1 l[j].1.length c1) ∧ w.cell? ⟨b, o + j * 2 + 1, none⟩ = some (.slice A2 l[j].2.length c2) ∧
    l[j].1.length ≤ c1 ∧ c1 ≤ 9223372036854775807 ∧ l[j].2.length ≤ c2 ∧ c2 ≤ 9223372036854775807 ∧ Rd w B A1 l[j].1 ∧ Rd w B A2 l[j].2) :
    ∃ xs : List (Ep w B), xs.length = l.length ∧ ∀ j (hj : j < xs.length) (hl : j < l.length), xs[j].1.2 = l[j] ∧ ∃ A1 n1 c1 A2 n2 c2, xs[j].1.1 = .agg #[.slice A1 n1 c1, .slice A2 n2 c2] ∧ w.cell? ⟨b, o + j * 2, none⟩ = some (.slice A1 n1 c1) ∧ w.cell? ⟨b, o + j * 2 + 1, none⟩ = some (.slice A2 n2 c2) := by
  have each : ∀ j : Fin l.length, ∃ x : Ep w B, x.1.2 = l[j.1] ∧ ∃ A1 n1 c1 A2 n2 c2, x.1.1 = .agg #[.slice A1 n1 c1, .slice A2 n2 c2] ∧ w.cell? ⟨b, o + j.1 * 2, none⟩ = some (.slice A1 n1 c1) ∧ w.cell? ⟨b, o + j.1 * 2 + 1, none⟩ = some (.slice A2 n2 c2) := by
    intro j
    obtain ⟨A1, c1, A2, c2, f1, f2, f3, f4, f5, f6, f7, f8⟩ := h j.1 j.2
    exact ⟨⟨(.agg #[.slice A1 l[j.1].1.length c1, .slice A2 l[j.1].2.length c2], l[j.1]), A1, c1, A2, c2, rfl, f3, f4, f5, f6, f7, f8⟩, rfl, _, _, _, _, _, _, rfl, f1, f2⟩
  obtain ⟨f, hf⟩ := Classical.axiomOfChoice each
  refine ⟨List.ofFn f, by simp, fun j hj hl => ?_⟩
  rw [List.getElem_ofFn]
  exact hf ⟨j, hl⟩
/-- stores into the cells of a block just made, as one -/
theorem fold2 (W : World) (a b x y : Value) (t : TypeId) : ((W.alloc (.cells #[a, b] t)).setCell ⟨W.heap.size, 0, none⟩ x).setCell ⟨W.heap.size, 1, none⟩ y = W.alloc (.cells #[x, y] t) := by
  simp only [World.setCell, World.alloc]
  congr 1
  apply Array.ext_getElem?
  intro i
  simp only [Array.getElem?_modify]
  by_cases h : W.heap.size = i
  · subst h; simp
  · have h' : ¬ i = W.heap.size := fun e => h e.symm
    simp [h, h', Array.getElem?_push]
theorem fold3 (W : World) (a b c x y z : Value) (t : TypeId) : (((W.alloc (.cells #[a, b, c] t)).setCell ⟨W.heap.size, 0, none⟩ x).setCell ⟨W.heap.size, 1, none⟩ y).setCell ⟨W.heap.size, 2, none⟩ z = W.alloc (.cells #[x, y, z] t) := by
  simp only [World.setCell, World.alloc]
  congr 1
  apply Array.ext_getElem?
  intro i
  simp only [Array.getElem?_modify]
  by_cases h : W.heap.size = i
  · subst h; simp
  · have h' : ¬ i = W.heap.size := fun e => h e.symm
    simp [h, h', Array.getElem?_push]
end Go.Proofs.YtcfncbbdlbdbnaaDoor
