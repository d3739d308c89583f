
/- Messages in memory: rows of fields (a number, and bytes); rows of the call's own, and appending to them. -/
import Derived.Test.YtpfjecjfooefoaaDoorJ01
import Derived.Deep.SlicePairs
import Derived.Deep.RegionLaw
import Derived.Deep.DeepMust
import Derived.Deep.RegionHeld3
import Derived.StillTailTactics
import Derived.Test.YtpfjecjfooefoaaDoorRows
import Derived.WalkKit
import Derived.WalkLawsBesides
import Derived.WalkSpells
import Derived.Lib.Hide
namespace Go.Proofs.YtpfjecjfooefoaaDoor
open Go.ChangeShapes Go.WideShapes Go.ChangeAt Go.RowKit

/-- a field: its number, its value -/
abbrev Fl := Int × List UInt8
/-- the slice at the address A reads as the fields l, below block B -/
def RdF (w : World) (B : Nat) (A : Option Addr) (l : List Fl) : Prop :=
  0 < l.length → ∃ b o, A = some ⟨b, o, none⟩ ∧ b < B ∧ ∀ j (h : j < l.length), ∃ A1 c1, w.cell? ⟨b, o + j * 2, none⟩ = some (.int .i64 l[j].1) ∧ w.cell? ⟨b, o + j * 2 + 1, none⟩ = some (.slice A1 l[j].2.length c1) ∧
    l[j].2.length ≤ c1 ∧ c1 ≤ 9223372036854775807 ∧ Rd w B A1 l[j].2
set_option maxRecDepth 100000 in
theorem RdF.nil {w : World} {B : Nat} {A : Option Addr} : RdF w B A [] := fun h => absurd h (by simp)
set_option maxRecDepth 100000 in
theorem RdF.below {w w' : World} {B B' : Nat} {A : Option Addr} {l : List Fl} (h : RdF w B A l) (hb : Below B' w w') (hB : B ≤ B') : RdF w' B A l := by
  intro h0
  obtain ⟨b, o, e, h1, h2⟩ := h h0
  refine ⟨b, o, e, h1, fun j hj => ?_⟩
  obtain ⟨A1, c1, f1, f2, f3, f4, f5⟩ := h2 j hj
  exact ⟨A1, c1, (hb.cell (p := ⟨b, o + j * 2, none⟩) (by show b < B'; omega)).trans f1, (hb.cell (p := ⟨b, o + j * 2 + 1, none⟩) (by show b < B'; omega)).trans f2, f3, f4, f5.below hb hB⟩
set_option maxRecDepth 100000 in
theorem RdF.more {w : World} {B B' : Nat} {A : Option Addr} {l : List Fl} (h : RdF w B A l) (hB : B ≤ B') : RdF w B' A l := by
  intro h0
  obtain ⟨b, o, e, h1, h2⟩ := h h0
  refine ⟨b, o, e, by omega, fun j hj => ?_⟩
  obtain ⟨A1, c1, f1, f2, f3, f4, f5⟩ := h2 j hj
  exact ⟨A1, c1, f1, f2, f3, f4, f5.more hB⟩
set_option maxRecDepth 100000 in
theorem RdF.at_ {w : World} {B : Nat} {A : Option Addr} {l : List Fl} (h : RdF w B A l) {k : Nat} (hk : k < l.length) :
    ∃ b o A1 c1, A = some ⟨b, o, none⟩ ∧ b < B ∧ w.cell? ⟨b, o + k * 2, none⟩ = some (.int .i64 l[k].1) ∧ w.cell? ⟨b, o + k * 2 + 1, none⟩ = some (.slice A1 l[k].2.length c1) ∧ l[k].2.length ≤ c1 ∧ c1 ≤ 9223372036854775807 ∧ Rd w B A1 l[k].2 := by
  obtain ⟨b, o, e, hb, hc⟩ := h (by omega)
  obtain ⟨A1, c1, f1, f2, f3, f4, f5⟩ := hc k hk
  exact ⟨b, o, A1, c1, e, hb, f1, f2, f3, f4, f5⟩
def I64f (l : List Fl) : Prop := ∀ x ∈ l, -9223372036854775808 ≤ x.1 ∧ x.1 ≤ 9223372036854775807

set_option maxRecDepth 100000 in
/-- a slice value that reads as data: its fields -/
theorem vals_in {H : Type} {enc : TypeId × Value → H} {W : World} {base fuel : Nat} {spare : Nat → Bool} {held : Bool} {a : Option Addr} {n c : Nat} {y : DataW H × List MemPlace}
    (hf : DataW.trod enc Tryd.prog W base spare held fuel 22 [.slice a n c] = some y) : ∃ l : List Fl, n = l.length ∧ l.length ≤ c ∧ c ≤ 9223372036854775807 ∧ I64f l ∧ RdF W W.heap.size a l := by
  rcases Go.Deep.open_slice_pairs Tryd.underlying22 Tryd.underlying60 (by kernel_rfl) rfl rfl (by kernel_rfl) (by kernel_rfl) hf with ⟨hcs, _⟩ | ⟨x, len, cap, m, k, V0, V1, D0, D1, P0, P1, hcs, hb, hl, hm, hmm, _, hrow⟩
  · simp at hcs
    obtain ⟨rfl, rfl, rfl⟩ := hcs
    exact ⟨[], rfl, by simp, by omega, fun z hz => absurd hz (by simp), RdF.nil⟩
  · simp at hcs
    obtain ⟨rfl, rfl, rfl⟩ := hcs
    have hnm : n ≤ m := by rw [hmm]; split <;> omega
    have each : ∀ j, j < n → ∃ p : Fl, ∃ A1 c1, V0 j = .int .i64 p.1 ∧ V1 j = .slice A1 p.2.length c1 ∧ p.2.length ≤ c1 ∧ c1 ≤ 9223372036854775807 ∧ Rd W W.heap.size A1 p.2 ∧ (-9223372036854775808 ≤ p.1 ∧ p.1 ≤ 9223372036854775807) := by
      intro j hj
      obtain ⟨_, _, g0, g1⟩ := hrow j (by omega)
      have g0' : DataW.trod enc Tryd.prog W base spare held k 3 [V0 j] = _ := g0
      have g1' : DataW.trod enc Tryd.prog W base spare held k 27 [V1 j] = _ := g1
      obtain ⟨z, e1, -, hz⟩ := DataW.trod_int Tryd.underlying3 g0'
      obtain ⟨A2, m2, c2, e2⟩ := Go.Joins.slice_form Tryd.underlying27 g1'
      simp only [List.cons.injEq, and_true] at e1 e2
      rw [e1]
      rw [e2] at g1' ⊢
      obtain ⟨p2, rfl, r1, r2, r3⟩ := bytes_in g1'
      exact ⟨(z, p2), A2, c2, rfl, rfl, r1, r2, r3, i64_bd hz⟩
    obtain ⟨f, hfe⟩ := Go.Deep.choose_lt each
    refine ⟨(List.range n).map f, by simp, by simpa using hl, by simpa [maxLen] using hm, ?_, fun h0 => ?_⟩
    · intro z hz
      obtain ⟨j, hj, rfl⟩ := List.mem_map.1 hz
      obtain ⟨_, _, _, _, _, _, _, h⟩ := hfe j (List.mem_range.1 hj)
      exact h
    have h0' : 0 < n := by simpa using h0
    obtain ⟨b, o, spot⟩ := x
    have hc0 := (hrow 0 (by omega)).1
    have hspot : spot = none := by simpa [Addr.add] using World.cell?_spot hc0
    subst hspot
    refine ⟨b, o, rfl, World.block_lt_of_cell? W ⟨b, o, none⟩ (by simpa [Addr.add] using hc0), fun j hj => ?_⟩
    have hj' : j < n := by simpa using hj
    obtain ⟨k0, k1, _, _⟩ := hrow j (by omega)
    obtain ⟨A1, c1, e1, e2, h3, h4, h5, -⟩ := hfe j hj'
    rw [Addr.add_lit, e1] at k0
    rw [Addr.add_lit, e2] at k1
    have hg : ((List.range n).map f)[j] = f j := by simp
    rw [hg]
    exact ⟨A1, c1, k0, k1, h3, h4, h5⟩

/-! ### rows of the call's own -/
abbrev V2f := Value × Value
/-- the two cells read as a field -/
def FE (w : World) (B : Nat) (v : V2f) (p : Fl) : Prop := ∃ A c, v = (.int .i64 p.1, .slice A p.2.length c) ∧ p.2.length ≤ c ∧ c ≤ 9223372036854775807 ∧ Rd w B A p.2
def csF (us : List V2f) : List Value := us.flatMap fun v => [v.1, v.2]
set_option maxRecDepth 100000 in
theorem csF_length (us : List V2f) : (csF us).length = us.length * 2 := by
  induction us with
  | nil => rfl
  | cons v us ih =>
    have : csF (v :: us) = v.1 :: v.2 :: csF us := rfl
    rw [this, List.length_cons, List.length_cons, ih, List.length_cons]
    omega
set_option maxRecDepth 100000 in
theorem csF_append (a b : List V2f) : csF (a ++ b) = csF a ++ csF b := by simp [csF]
set_option maxRecDepth 100000 in
theorem csF_at : ∀ (us : List V2f) (j : Nat), (csF us)[j]? = if j % 2 = 0 then us[j / 2]?.map (·.1) else us[j / 2]?.map (·.2)
  | [], j => by simp [csF]
  | v :: us, 0 => by simp [csF]
  | v :: us, 1 => by simp [csF]
  | v :: us, j + 2 => by
    have e : csF (v :: us) = v.1 :: v.2 :: csF us := rfl
    rw [e, List.getElem?_cons_succ, List.getElem?_cons_succ, csF_at us j]
    rw [show (j + 2) % 2 = j % 2 by omega, show (j + 2) / 2 = j / 2 + 1 by omega, List.getElem?_cons_succ]
set_option maxRecDepth 100000 in
theorem csF_even (us : List V2f) (j : Nat) (h : j < us.length) : (csF us)[j * 2]? = some us[j].1 := by
  rw [csF_at, if_pos (by omega), show j * 2 / 2 = j by omega, List.getElem?_eq_getElem h]
  rfl
set_option maxRecDepth 100000 in
theorem csF_odd (us : List V2f) (j : Nat) (h : j < us.length) : (csF us)[j * 2 + 1]? = some us[j].2 := by
  rw [csF_at, if_neg (by omega), show (j * 2 + 1) / 2 = j by omega, List.getElem?_eq_getElem h]
  rfl
/-- v is the call's own slice of fields (from block base on): its cells are us, and none of its block is a byte -/
def OwF (w : World) (base : Nat) (v : Value) (us : List V2f) : Prop :=
  (v = .slice none 0 0 ∧ us = []) ∨ ∃ g cap cur, v = .slice (some ⟨g, 0, none⟩) us.length cap ∧ base ≤ g ∧ w.heap[g]? = some (.cells cur 60 (0, 0)) ∧ us.length ≤ cap ∧ cap ≤ maxLen ∧ cur.size = cap * 2 ∧ cur.toList.take (us.length * 2) = csF us ∧ (∀ x ∈ cur.toList, NoB x = true)
set_option maxRecDepth 100000 in
theorem OwF.nil {w : World} {base : Nat} : OwF w base (.slice none 0 0) [] := .inl ⟨rfl, rfl⟩
set_option maxRecDepth 100000 in
theorem OwF.owns {w : World} {base : Nat} {v : Value} {us : List V2f} (h : OwF w base v us) : w.ownsRow base 60 2 v us.length (csF us) := by
  rcases h with ⟨rfl, rfl⟩ | ⟨g, cap, cur, rfl, h1, h2, h3, h4, h5, h6, -⟩
  · exact World.ownsRow_nil _ _ _ _
  · exact ⟨csF_length us, .inr ⟨g, cap, cur, rfl, h1, h2, h3, h4, h5, h6⟩⟩
set_option maxRecDepth 100000 in
theorem OwF.alloc {w : World} {base : Nat} {v : Value} {us : List V2f} (h : OwF w base v us) (o : Obj) : OwF (w.alloc o) base v us := by
  rcases h with h | ⟨g, cap, cur, h0, h1, h2, h3⟩
  · exact .inl h
  · exact .inr ⟨g, cap, cur, h0, h1, (heap_alloc_old w o (Array.getElem?_eq_some_iff.1 h2).1).trans h2, h3⟩
set_option maxRecDepth 100000 in
theorem OwF.call {w w' : World} {base : Nat} {v : Value} {us : List V2f} (h : OwF w base v us) (hb : Below w.heap.size w w') : OwF w' base v us := by
  rcases h with h | ⟨g, cap, cur, h0, h1, h2, h3⟩
  · exact .inl h
  · exact .inr ⟨g, cap, cur, h0, h1, oldG h2 hb (Nat.le_refl _), h3⟩
set_option maxRecDepth 100000 in
theorem Rd.grownF {w w' : World} {base : Nat} {A : Option Addr} {l : List UInt8} {v : Value} {us : List V2f} (h : Rd w w.heap.size A l) (ho : OwF w base v us) (hg : w.grownBy w' v.ownBlock) : Rd w' w'.heap.size A l := by
  intro h0
  obtain ⟨b, o, rfl, hb, hc⟩ := h h0
  have hk : some b ≠ v.ownBlock := by
    rcases ho with ⟨rfl, _⟩ | ⟨g, cap, cur, rfl, h1, h2, h3, h4, h5, h6, h7⟩
    · simp [Value.ownBlock]
    · have := Rd.notF (w := w) (B := w.heap.size) (A := some ⟨b, o, none⟩) (l := l) (fun _ => ⟨b, o, rfl, hb, hc⟩) h2 h7 h0 ⟨b, o, none⟩ rfl
      simp only [Value.ownBlock]
      exact fun e => this (Option.some.inj e)
  have hblk := hg.block b hb hk
  have hsz := hg.size
  exact ⟨b, o, rfl, by omega, fun j hj => by rw [World.cell?_of_block (w := w) (a := ⟨b, o + j, none⟩) hblk]; exact hc j hj⟩
set_option maxRecDepth 100000 in
theorem infoF : (Tryd.prog.info? 60).map (fun i => (i.zero, i.size, i.bytes)) = some (some (.agg #[.int .i64 0, .slice none 0 0]), 2, 32) := by kernel_rfl
set_option maxRecDepth 100000 in
theorem OwF.form {w : World} {base : Nat} {v : Value} {us : List V2f} (h : OwF w base v us) : ∃ A c, v = .slice A us.length c ∧ us.length ≤ c ∧ c ≤ 9223372036854775807 := by
  rcases h with ⟨rfl, rfl⟩ | ⟨g, cap, cur, rfl, h1, h2, h3, h4, h5, h6, -⟩
  · exact ⟨none, 0, rfl, by simp, by omega⟩
  · exact ⟨_, cap, rfl, h3, by simpa [maxLen] using h4⟩
/-- the cells' fields -/
def FEs (w : World) (us : List V2f) (l : List Fl) : Prop := us.length = l.length ∧ ∀ j (h : j < us.length) (h' : j < l.length), FE w w.heap.size us[j] l[j]
set_option maxRecDepth 100000 in
theorem FEs.nil {w : World} : FEs w [] [] := ⟨rfl, fun j h => absurd h (by simp)⟩
set_option maxRecDepth 100000 in
theorem FE.keep {w w' : World} {v : V2f} {p : Fl} (h : FE w w.heap.size v p) (hk : ∀ A : Option Addr, ∀ l : List UInt8, Rd w w.heap.size A l → Rd w' w'.heap.size A l) : FE w' w'.heap.size v p := by
  obtain ⟨A, c, e, h1, h2, h3⟩ := h
  exact ⟨A, c, e, h1, h2, hk A _ h3⟩
set_option maxRecDepth 100000 in
theorem FEs.keep {w w' : World} {us : List V2f} {l : List Fl} (h : FEs w us l) (hk : ∀ A : Option Addr, ∀ l : List UInt8, Rd w w.heap.size A l → Rd w' w'.heap.size A l) : FEs w' us l := ⟨h.1, fun j h1 h2 => (h.2 j h1 h2).keep hk⟩
set_option maxRecDepth 100000 in
theorem FEs.go {w w' : World} {us : List V2f} {l : List Fl} (h : FEs w us l) (hb : Below w.heap.size w w') : FEs w' us l := h.keep fun _ _ hr => hr.go hb
set_option maxRecDepth 100000 in
theorem FEs.snoc {w : World} {us : List V2f} {l : List Fl} {v : V2f} {p : Fl} (h : FEs w us l) (hv : FE w w.heap.size v p) : FEs w (us ++ [v]) (l ++ [p]) := by
  refine ⟨by simp [h.1], fun j h1 h2 => ?_⟩
  by_cases hj : j < us.length
  · rw [List.getElem_append_left hj, List.getElem_append_left (by rw [← h.1]; exact hj)]
    exact h.2 j hj _
  · have h3 : j = us.length := by simp at h1; omega
    subst h3
    rw [List.getElem_append_right (Nat.le_refl _), List.getElem_append_right (by rw [h.1]; exact Nat.le_refl _)]
    simpa using hv
set_option maxRecDepth 100000 in
/-- what the call owns reads as fields -/
theorem OwF.rd {w : World} {base : Nat} {A : Option Addr} {n c : Nat} {us : List V2f} {l : List Fl} (h : OwF w base (.slice A n c) us) (hf : FEs w us l) : RdF w w.heap.size A l := by
  intro h0
  rcases h with ⟨e, rfl⟩ | ⟨g, cap, cur, e, h1, h2, h3, h4, h5, h6, -⟩
  · exact absurd hf.1 (by simp; omega)
  · cases e
    refine ⟨g, 0, rfl, (Array.getElem?_eq_some_iff.1 h2).1, fun j hj => ?_⟩
    have hju : j < us.length := by rw [hf.1]; exact hj
    obtain ⟨A1, c1, e1, h7, h8, h9⟩ := hf.2 j hju hj
    have k : ∀ i, i < us.length * 2 → cur[i]? = (csF us)[i]? := fun i hi => by
      rw [← h6, List.getElem?_take, if_pos hi, Array.getElem?_toList]
    refine ⟨A1, c1, ?_, ?_, h7, h8, h9⟩
    · rw [cell_of_row _ _ _ _ _ _ h2, Nat.zero_add, k _ (by omega), csF_even us j hju, e1]
    · rw [cell_of_row _ _ _ _ _ _ h2, Nat.zero_add, k _ (by omega), csF_odd us j hju, e1]

set_option maxRecDepth 100000 in
/-- append of one field -/
theorem run_appF (ty : TypeId) (w : World) (base : Nat) (v : Value) (us : List V2f) (h : OwF w base v us) (b c : Nat) (x : Int) (A : Option Addr) (n k : Nat)
    (hb0 : w.cell? ⟨b, 0, none⟩ = some (.int .i64 x)) (hb1 : w.cell? ⟨b, 1, none⟩ = some (.slice A n k)) (hlen : us.length ≤ 1000000) (hbase : base ≤ w.heap.size) :
    ∃ v' w', (Builtin.append_ #[22, 22] ty #[v, .slice (some ⟨b, 0, none⟩) 1 c]).run Tryd.prog w = .ok v' w' ∧ OwF w' base v' (us ++ [(.int .i64 x, .slice A n k)]) ∧ w.grownBy w' v.ownBlock := by
  obtain ⟨i0, hi, hz0, hz1, hz2⟩ := info_parts infoF
  have hnews : ∀ j u, (csF [(Value.int .i64 x, Value.slice A n k)])[j]? = some u → w.cell? ((⟨b, 0, none⟩ : Addr).add j) = some u := by
    intro j u hu
    rw [Addr.add_lit, Nat.zero_add]
    match j, hu with
    | 0, hu => cases hu; exact hb0
    | 1, hu => cases hu; exact hb1
    | j + 2, hu => simp [csF] at hu
  have hone : ∀ u ∈ csF [(Value.int .i64 x, Value.slice A n k)], u.oneCell' = true := by
    intro u hu
    simp [csF] at hu
    rcases hu with rfl | rfl <;> rfl
  have hnob : ∀ u ∈ csF [(Value.int .i64 x, Value.slice A n k)], NoB u = true := by
    intro u hu
    simp [csF] at hu
    rcases hu with rfl | rfl <;> rfl
  have hnl : (csF [(Value.int .i64 x, Value.slice A n k)]).length = 2 := rfl
  have hlen2 : (us ++ [(Value.int .i64 x, Value.slice A n k)]).length = us.length + 1 := by simp
  have hcs2 : (csF (us ++ [(Value.int .i64 x, Value.slice A n k)])).length = (us.length + 1) * 2 := by rw [csF_length, hlen2]
  have hzb : ∀ q, ∀ u ∈ (Builtin.zeroCells (Value.agg #[.int .i64 0, .slice none 0 0]).cells q).toList, NoB u = true := by
    intro q u hu
    simp [Builtin.zeroCells, Value.cells] at hu
    obtain ⟨j, hj, rfl⟩ := hu
    rcases Nat.mod_two_eq_zero_or_one j with e | e <;> simp [e, NoB]
  have grown : ∀ old, old < us.length + 1 → (∀ u ∈ csF us, NoB u = true) →
      OwF (w.drew.alloc (.cells ((csF us).toArray ++ (csF [(Value.int .i64 x, Value.slice A n k)]).toArray ++ Builtin.zeroCells (Value.agg #[.int .i64 0, .slice none 0 0]).cells (grownCap w (us.length + 1) old 60 - (us.length + 1))) 60)) base
        (.slice (some ⟨w.heap.size, 0, none⟩) (us.length + 1) (grownCap w (us.length + 1) old 60)) (us ++ [(.int .i64 x, .slice A n k)]) := by
    intro old ho hnb
    have hge := grownCap_ge w (us.length + 1) old 60
    have hcm : grownCap w (us.length + 1) old 60 ≤ maxLen := grownCap_le_maxLen w (us.length + 1) old 60 (by unfold maxLen; omega)
    have hzc : (Value.agg #[.int .i64 0, .slice none 0 0]).cells.size = 2 := rfl
    refine .inr ⟨w.heap.size, _, _, by rw [hlen2], hbase, heap_alloc_new w.drew _, by rw [hlen2]; exact hge, hcm, ?_, ?_, ?_⟩
    · simp only [Array.size_append, List.size_toArray, size_zeroCells, hzc, csF_length, List.length_cons, List.length_nil]
      omega
    · simp only [Array.toList_append]
      rw [← csF_append, hlen2, ← hcs2]
      exact List.take_left
    · intro u hu
      simp only [Array.toList_append, List.mem_append] at hu
      rcases hu with (hu | hu) | hu
      · exact hnb u hu
      · exact hnob u hu
      · exact hzb _ u hu
  rcases h with ⟨rfl, rfl⟩ | ⟨g, cap, cur, rfl, hbg, hg, hnc, hcm, hcs, htake, hnb⟩
  · have hr := run_append_nil (P := Tryd.prog) w 22 ty 60 i0 (.agg #[.int .i64 0, .slice none 0 0]) Tryd.underlying22 hi hz0 ⟨b, 0, none⟩ 1 c (csF [(Value.int .i64 x, Value.slice A n k)]) (by rw [hnl, hz1]) hnews (by omega) (by omega) (by rw [hz2]; omega)
    have hgr := grown 0 (by simp) (by simp [csF])
    simp only [List.length_nil, Nat.zero_add, List.nil_append] at hgr ⊢
    refine ⟨_, _, hr, ?_, ⟨rfl, rfl, rfl, by simp, fun k hk _ => heap_alloc_old w.drew _ hk⟩⟩
    simpa [csF] using hgr
  · have hnbu : ∀ u ∈ csF us, NoB u = true := fun u hu => hnb u (by rw [← htake] at hu; exact List.mem_of_mem_take hu)
    by_cases hroom : us.length + 1 ≤ cap
    · have hr := run_append_room (P := Tryd.prog) w 22 ty 60 i0 Tryd.underlying22 hi g us.length cap cur hg ⟨b, 0, none⟩ 1 c (csF [(Value.int .i64 x, Value.slice A n k)]) (by rw [hnl, hz1]) hnews hone hroom (by rw [hnl, hz1, hcs]; omega)
      refine ⟨_, _, hr, .inr ⟨g, cap, _, by rw [hlen2], hbg, setRow_heap w g cur _ _ _ hg, by rw [hlen2]; exact hroom, hcm, ?_, ?_, ?_⟩, ⟨rfl, rfl, rfl, by simp, fun k _ hk => setRow_other w g k _ (fun e => hk (by simp [Value.ownBlock, e]))⟩⟩
      · simp only [List.size_toArray, List.length_append, List.length_take, List.length_drop, Array.length_toList, hnl]
        rw [hz1]
        omega
      · rw [hz1, htake, ← csF_append, hlen2, ← hcs2]
        exact List.take_left
      · intro u hu
        simp only [List.mem_append] at hu
        rcases hu with (hu | hu) | hu
        · exact hnb u (List.mem_of_mem_take hu)
        · exact hnob u hu
        · exact hnb u (List.mem_of_mem_drop hu)
    · have hx : w.ownsRow base 60 2 (.slice (some ⟨g, 0, none⟩) us.length cap) us.length (csF us) := ⟨csF_length us, .inr ⟨g, cap, cur, rfl, hbg, hg, hnc, hcm, hcs, htake⟩⟩
      have holds : ∀ j u, (csF us)[j]? = some u → w.cell? ((⟨g, 0, none⟩ : Addr).add j) = some u := hx.cells (g := g) rfl
      have hr := run_append_grow (P := Tryd.prog) w 22 ty 60 i0 (.agg #[.int .i64 0, .slice none 0 0]) Tryd.underlying22 hi hz0 ⟨g, 0, none⟩ us.length cap (csF us) (by rw [csF_length, hz1]) holds ⟨b, 0, none⟩ 1 c (csF [(Value.int .i64 x, Value.slice A n k)]) (by rw [hnl, hz1]) hnews (by omega) (by omega) (by rw [hz2]; exact growslice_fits (by omega) (by omega))
      exact ⟨_, _, hr, grown cap (by omega) hnbu, ⟨rfl, rfl, rfl, by simp, fun k hk _ => heap_alloc_old w.drew _ hk⟩⟩
end Go.Proofs.YtpfjecjfooefoaaDoor
/- dig.Hex -/

namespace Go.Proofs.YtpfjecjfooefoaaDoor
open Go.RowKit

def sgn (n : Nat) : UInt8 := if n < 10 then UInt8.ofNat (48 + n) else UInt8.ofNat (87 + n)
def hx (l : List UInt8) : List UInt8 := l.flatMap fun b => [sgn (b.toNat / 16), sgn (b.toNat % 16)]
set_option maxRecDepth 100000 in
theorem hx_length (l : List UInt8) : (hx l).length = 2 * l.length := by
  induction l with
  | nil => rfl
  | cons a l ih => simp only [hx, List.flatMap_cons, List.length_append, List.length_cons, List.length_nil] at ih ⊢; omega
set_option maxRecDepth 100000 in
theorem take_snoc (l : List UInt8) (k : Nat) (h : k < l.length) : l.take (k + 1) = l.take k ++ [l[k]] := by
  rw [List.take_succ_eq_append_getElem h]
set_option maxRecDepth 100000 in
theorem hx_snoc (l : List UInt8) (c : UInt8) : hx (l ++ [c]) = hx l ++ [sgn (c.toNat / 16), sgn (c.toNat % 16)] := by
  simp [hx]

set_option maxRecDepth 100000 in
theorem idx_signs (q : Int) (j : Nat) (hq : q = j) (h : j < 16) (W : World) : (Instr.index 9 (.string ⟨#[48, 49, 50, 51, 52, 53, 54, 55, 56, 57, 97, 98, 99, 100, 101, 102]⟩) (.int .u8 q)).run Tryd.prog W = .ok (.int .u8 ((sgn j).toNat : Int)) W := by
  subst hq
  match j, h with
  | 0, _ => rfl | 1, _ => rfl | 2, _ => rfl | 3, _ => rfl | 4, _ => rfl | 5, _ => rfl | 6, _ => rfl | 7, _ => rfl
  | 8, _ => rfl | 9, _ => rfl | 10, _ => rfl | 11, _ => rfl | 12, _ => rfl | 13, _ => rfl | 14, _ => rfl | 15, _ => rfl
  | j + 16, h => exact absurd h (by omega)
set_option maxRecDepth 100000 in
theorem idx_hi (b : UInt8) : ∀ W, (Instr.index 9 (.string ⟨#[48, 49, 50, 51, 52, 53, 54, 55, 56, 57, 97, 98, 99, 100, 101, 102]⟩) (.int .u8 ((b.toNat : Int) / 16))).run Tryd.prog W = .ok (.int .u8 ((sgn (b.toNat / 16)).toNat : Int)) W :=
  fun W => idx_signs _ (b.toNat / 16) (by omega) (by have := b.toNat_lt; omega) W
set_option maxRecDepth 100000 in
theorem idx_lo (b : UInt8) : ∀ W, (Instr.index 9 (.string ⟨#[48, 49, 50, 51, 52, 53, 54, 55, 56, 57, 97, 98, 99, 100, 101, 102]⟩) (.int .u8 ((b.toNat : Int) % 16))).run Tryd.prog W = .ok (.int .u8 ((sgn (b.toNat % 16)).toNat : Int)) W :=
  fun W => idx_signs _ (b.toNat % 16) (by omega) (by omega) W

set_option maxRecDepth 100000 in
theorem hex_any (A : Option Addr) (l : List UInt8) (c : Nat) (w : World) (hl : l.length ≤ 1000000) (hr : Rd w w.heap.size A l) :
    Calls Tryd.prog 101 #[.slice A l.length c] w fun e w' => e = .returned (.string ⟨(hx l).toArray⟩) ∧ Below w.heap.size w w' := by
  obtain ⟨i0, hi, hz0, hz1, hz2⟩ := info_parts info5
  go_enter Tryd.func101, Tryd.ntmps101
  go_wp2_with (at_make; refine wpList_make_own _ rfl _ _ 27 rfl w.heap.size 5 i0 (.int .u8 0) 1 Tryd.underlying27 hi hz0 hz1 _ _ _ (2 * l.length) rfl rfl (by omega) (by rw [hz2]; omega) (by unfold maxLen; omega) (Nat.le_refl _) ?_; intro w1 hown hgrow)
  have hb0 : Below w.heap.size w w1 := (Below.refl _ _).grown hgrow (Nat.le_refl _) (by intro k h; cases h)
  clear hgrow
  go_loopw [3, 12] (fun v i wr => ∃ k : Nat, k ≤ l.length ∧ i = .int .i64 k ∧ Ow wr w.heap.size v (hx (l.take k)) ∧ Below w.heap.size w wr) (fun _ i _ => l.length - (intOf i).toNat)
  case atStart => exact ⟨0, Nat.zero_le _, rfl, hown, hb0⟩
  case round =>
    obtain ⟨k, hk, rfl, hown, hb⟩ := hrel
    by_cases hlt : k < l.length
    · obtain ⟨b, o, rfl, hbB, hc⟩ := hr.at_ hlt
      have hc' := (hb.cell (p := ⟨b, o + k, none⟩) hbB).trans hc
      clear hc
      go_wp2
      have hx1 := idx_hi l[k]
      have hx2 := idx_lo l[k]
      have hand : bits BinOp.and IntKind.u8 (l[k].toNat : Int) 15 = (l[k].toNat : Int) % 16 := u8_and15 _ (Int.natCast_nonneg _) (by have := l[k].toNat_lt; omega)
      have HW := Lib.hid hown
      have HB := Lib.hid hb
      clear hc' hown hb
      have hlen : (hx (l.take k)).length ≤ 2000000 := by rw [hx_length, List.length_take]; omega
      have hsz := HB.out.size
      go_region_law (refine step_app rfl _ (.tmp 16) (.tmp 23) rfl w.heap.size _ _ [sgn (l[k].toNat / 16), sgn (l[k].toNat % 16)] rfl (by exact HW.out.alloc _) ⟨_, 0, none⟩ 2 _ rfl rfl (by exact news2 _ _ _) (by simp only [List.length_cons, List.length_nil]; omega) (by exact le_alloc hsz _) ?_; intro v2 w2 hown2 hgrow2)
      all_goals
        have hb2 := Ow.below (w0 := w) (by exact HW.out.alloc _) (by exact HB.out.drew.alloc hsz _) hgrow2 (by exact le_alloc hsz _)
        rw [← hx_snoc, ← take_snoc l k hlt] at hown2
        have HW2 := Lib.hid hown2
        have HB2 := Lib.hid hb2
        clear hgrow2 hown2 hb2 hand hx1 hx2 hlen HW HB hsz
        go_wp2
        go_roundw
        case rel => exact ⟨k + 1, by omega, by go_num, HW2.out, HB2.out⟩
        case measure => simp [intOf]; omega
    · have hkl : k = l.length := by omega
      rw [hkl, List.take_length] at hown
      have hst : ∀ W, W = wr → (convert 27 9 u3).run Tryd.prog W = .ok (.string ⟨(hx l).toArray⟩) W := by
        intro W hW
        subst hW
        obtain ⟨A', c', hv, _, _, hr'⟩ := hown.sl
        rw [hv]
        exact run_str hr' c' _ _ _ Tryd.underlying27 Tryd.underlying5 Tryd.underlying9
      have hst' := hst wr rfl
      clear hst hkl hown
      have HB := Lib.hid hb
      clear hb
      go_wp2
      go_ret
      exact ⟨rfl, HB.out⟩
end Go.Proofs.YtpfjecjfooefoaaDoor
/- Small callees: figure, half, sign, worth, power. -/

namespace Go.Proofs.YtpfjecjfooefoaaDoor
open Go.RowKit

set_option maxRecDepth 100000 in
theorem pow_pos' (n : Int) (j : Nat) (h1 : 1 ≤ n) : 1 ≤ n ^ j := by
  induction j with
  | zero => simp
  | succ j ih =>
    rw [Int.pow_succ]
    have := Int.mul_le_mul ih h1 (by omega) (by omega)
    omega

set_option maxRecDepth 100000 in
theorem pow_le_pow' (n : Int) (j k : Nat) (h1 : 1 ≤ n) (hjk : j ≤ k) : n ^ j ≤ n ^ k := by
  obtain ⟨d, rfl⟩ := Nat.exists_eq_add_of_le hjk
  rw [Int.pow_add]
  have a := pow_pos' n j h1
  have b := pow_pos' n d h1
  have := Int.mul_le_mul (Int.le_refl (n ^ j)) b (by omega) (by omega)
  omega

set_option maxRecDepth 100000 in
theorem pow_step (n p : Int) (j k : Nat) (h1 : 1 ≤ n) (hlt : j < k) (hp : Hid (p = n ^ j)) (h2 : Hid ((n ^ k : Int) ≤ 9223372036854775807)) : 0 ≤ p * n ∧ p * n ≤ 9223372036854775807 := by
  have e : p * n = n ^ (j + 1) := by rw [hp.out, Int.pow_succ]
  have a := pow_pos' n (j + 1) h1
  have b := pow_le_pow' n (j + 1) k h1 (by omega)
  have c := h2.out
  rw [e]
  omega

set_option maxRecDepth 100000 in
theorem figure_yes (r : Int) (w : World) (h1 : 48 ≤ r) (h2 : r ≤ 57) :
    Calls Tryd.prog 69 #[.int .i32 r] w fun e w' => e = .returned (.tuple #[.int .u8 (r - 48), .bool true]) ∧ w = w' := by
  go_enter Tryd.func69, Tryd.ntmps69
  go_wp2
  go_ret2
  exact ⟨by simp, rfl⟩

set_option maxRecDepth 100000 in
theorem figure_no (r : Int) (w : World) (h : r < 48 ∨ 57 < r) :
    Calls Tryd.prog 69 #[.int .i32 r] w fun e w' => e = .returned (.tuple #[.int .u8 0, .bool false]) ∧ w = w' := by
  rcases h with h | h
  · go_enter Tryd.func69, Tryd.ntmps69
    go_wp2
    go_ret2
    exact ⟨rfl, rfl⟩
  · have h' : 48 ≤ r := by omega
    go_enter Tryd.func69, Tryd.ntmps69
    go_wp2
    go_ret2
    exact ⟨rfl, rfl⟩

set_option maxRecDepth 100000 in
theorem sign_figure (c : Int) (w : World) (h1 : 0 ≤ c) (h2 : c < 10) :
    Calls Tryd.prog 67 #[.int .u8 c] w fun e w' => e = .returned (.int .u8 (c + 48)) ∧ w = w' := by
  go_enter Tryd.func67, Tryd.ntmps67
  go_wp2
  go_ret
  exact ⟨by simp; omega, rfl⟩

set_option maxRecDepth 100000 in
theorem sign_letter (c : Int) (w : World) (h1 : 10 ≤ c) (h2 : c < 16) :
    Calls Tryd.prog 67 #[.int .u8 c] w fun e w' => e = .returned (.int .u8 (c + 87)) ∧ w = w' := by
  go_enter Tryd.func67, Tryd.ntmps67
  go_wp2
  go_ret
  exact ⟨by simp; omega, rfl⟩

set_option maxRecDepth 100000 in
theorem power_any (n : Int) (k : Nat) (w : World) (h1 : 1 ≤ n) (h2 : (n ^ k : Int) ≤ 9223372036854775807) (hk : k ≤ 63) :
    Calls Tryd.prog 89 #[.int .i64 n, .int .i64 k] w fun e w' => e = .returned (.int .i64 (n ^ k)) ∧ w = w' := by
  have H2 := Lib.hid h2
  clear h2
  go_enter Tryd.func89, Tryd.ntmps89
  go_wp2
  go_loop [5, 6] (fun t i => ∃ (j : Nat) (p : Int), j ≤ k ∧ i = .int .i64 j ∧ t = .int .i64 p ∧ Hid (p = n ^ j)) (fun _ i => k - (intOf i).toNat)
  case atStart => exact ⟨0, 1, Nat.zero_le _, rfl, rfl, Lib.hid (by simp)⟩
  case round =>
    obtain ⟨j, p, hj, rfl, rfl, hp⟩ := hrel
    by_cases hlt : j < k
    · have hb := pow_step n p j k h1 hlt hp H2
      obtain ⟨b1, b2⟩ := hb
      go_wp2
      go_round
      case rel => exact ⟨j + 1, p * n, by omega, by go_num, rfl, Lib.hid (by rw [hp.out, Int.pow_succ])⟩
      case measure => simp [intOf]; omega
    · have hjk : j = k := by omega
      have hp' := hp.out
      rw [hjk] at hp'
      have HP := Lib.hid hp'
      clear hp' hjk hp
      go_wp2
      go_ret
      exact ⟨by rw [HP.out]; rfl, rfl⟩
end Go.Proofs.YtpfjecjfooefoaaDoor
