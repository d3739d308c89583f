
/- Plain tools for walks: worlds, blocks; rows of numbers in memory. -/
import Derived.Test.YtegekmgelnkdbaaBytes
import Derived.Test.YtegekmgelnkdbaaFrame
namespace Go.Proofs.Ytegekmgelnkdbaa
open Go.ChangeShapes Go.WideShapes Go.ChangeAt Go.RowKit

set_option maxRecDepth 100000 in
theorem belG {B : Nat} {w X w1 : World} (h : Below B w X) (hb : Below X.heap.size X w1) (hB : B ≤ X.heap.size) : Below B w w1 := h.trans (hb.mono hB)
set_option maxRecDepth 100000 in
theorem oldG {w w' : World} {B g : Nat} {x : Obj} (h : w.heap[g]? = some x) (hb : Below B w w') (hB : w.heap.size ≤ B) : w'.heap[g]? = some x := (hb.block g (Nat.lt_of_lt_of_le (Array.getElem?_eq_some_iff.1 h).1 hB)).trans h
set_option maxRecDepth 100000 in
theorem at_listG {P : Program} {ops : Array Oper} {rest : List Oper} {o : Oper} {a : Act} {w : World} {Q : Exit → Act → World → Prop} (h : wpList P ops Q (o :: rest) a w) : wpList P ops Q (o :: rest) a w := h
set_option maxRecDepth 100000 in
theorem cG1 {w : World} {g : Nat} {x : Value} {t : TypeId} {fr : Nat × Nat} (h : w.heap[g]? = some (.cells #[x] t fr)) : w.cell? ⟨g, 0, none⟩ = some x := (cell_of_row _ _ _ _ _ _ h).trans rfl
set_option maxRecDepth 100000 in
theorem cG2 {w : World} {g : Nat} {x y : Value} {t : TypeId} {fr : Nat × Nat} (h : w.heap[g]? = some (.cells #[x, y] t fr)) : w.cell? ⟨g, 0, none⟩ = some x ∧ w.cell? ⟨g, 1, none⟩ = some y :=
  ⟨(cell_of_row _ _ _ _ _ _ h).trans rfl, (cell_of_row _ _ _ _ _ _ h).trans rfl⟩
set_option maxRecDepth 100000 in
theorem cG3 {w : World} {g : Nat} {x y z : Value} {t : TypeId} {fr : Nat × Nat} (h : w.heap[g]? = some (.cells #[x, y, z] t fr)) : w.cell? ⟨g, 0, none⟩ = some x ∧ w.cell? ⟨g, 1, none⟩ = some y ∧ w.cell? ⟨g, 2, none⟩ = some z :=
  ⟨(cell_of_row _ _ _ _ _ _ h).trans rfl, (cell_of_row _ _ _ _ _ _ h).trans rfl, (cell_of_row _ _ _ _ _ _ h).trans rfl⟩
set_option maxRecDepth 100000 in
theorem fG {w : World} {g : Nat} {t : TypeId} {c : Array Value} (h : w.heap[g]? = some (.cells c t (0, 0))) (j : Nat) : w.frozen? ⟨g, j, none⟩ = false := frozen_of_row w g j _ _ h
set_option maxRecDepth 100000 in
theorem Below.setRowG {B : Nat} {a w : World} (h : Below B a w) {g : Nat} (hg : B ≤ g) (cs : Array Value) : Below B a (w.setRow g cs) :=
  h.trans ⟨rfl, rfl, rfl, by simp [World.setRow], fun k hk => setRow_other w g k cs (by omega)⟩
set_option maxRecDepth 100000 in
theorem setRowG_id (w : World) (g : Nat) (c : Array Value) (t : TypeId) (fr : Nat × Nat) (h : w.heap[g]? = some (.cells c t fr)) : w.setRow g c = w := by
  have e : (w.setRow g c).heap = w.heap := by
    apply Array.ext_getElem?
    intro i
    by_cases hi : i = g
    · subst hi; rw [setRow_heap _ _ _ _ _ _ h, h]
    · exact setRow_other _ _ _ _ hi
  unfold World.setRow at e ⊢
  simpa using congrArg (fun x => { w with heap := x }) e
set_option maxRecDepth 100000 in
theorem setRowG_fold (W : World) (a b : Array Value) (t : TypeId) : (W.alloc (.cells a t)).setRow W.heap.size b = W.alloc (.cells b t) := by
  simp only [World.setRow, World.alloc]
  congr 1
  apply Array.ext_getElem?
  intro i
  simp only [Array.getElem?_modify]
  by_cases h : W.heap.size = i
  · subst h; simp
  · have h' : ¬ i = W.heap.size := fun e => h e.symm
    rw [if_neg h]
    simp [Array.getElem?_push, h']
/-- answers: a slice that reads as l; and two numbers behind it -/
def AnsBG (W' : World) (e : Ending) (l : List UInt8) (n : Nat) : Prop := ∃ A c, e = .returned (.slice A n c) ∧ n ≤ c ∧ c ≤ 9223372036854775807 ∧ Rd W' W'.heap.size A l
def Ans3G (W' : World) (e : Ending) (l : List UInt8) (n : Nat) (i x : Int) : Prop := ∃ A c, e = .returned (.tuple #[.slice A n c, .int .i64 i, .int .i64 x]) ∧ n ≤ c ∧ c ≤ 9223372036854775807 ∧ Rd W' W'.heap.size A l
set_option maxRecDepth 100000 in
theorem Ans3G.none {W' : World} {x : Int} : Ans3G W' (.returned (.tuple #[.slice none 0 0, .int .i64 0, .int .i64 x])) [] 0 0 x := ⟨_, _, rfl, Nat.le_refl _, by omega, Rd.nil⟩
set_option maxRecDepth 100000 in
theorem AnsG.none {W' : World} {x : Value} : Ans W' (.returned (.tuple #[.slice none 0 0, x])) [] 0 x := ⟨_, _, rfl, Nat.le_refl _, by omega, Rd.nil⟩
set_option maxRecDepth 100000 in
theorem rd_takeG {w : World} {B : Nat} {A : Option Addr} {l : List UInt8} (h : Rd w B A l) (n : Nat) : Rd w B A (l.take n) := by
  intro h0
  rw [List.length_take] at h0
  obtain ⟨b, o, e, hb, hc⟩ := h (by omega)
  refine ⟨b, o, e, hb, fun j hj => ?_⟩
  rw [hc j (by rw [List.length_take] at hj; omega), List.getElem_take]

/-! ### numbers in memory -/
/-- the slice at the address A reads as the numbers l, below block B -/
def RdI (w : World) (B : Nat) (A : Option Addr) (l : List Int) : Prop :=
  0 < l.length → ∃ b o, A = some ⟨b, o, none⟩ ∧ b < B ∧ ∀ j (h : j < l.length), w.cell? ⟨b, o + j, none⟩ = some (.int .i64 l[j])
set_option maxRecDepth 100000 in
theorem RdI.nil {w : World} {B : Nat} {A : Option Addr} : RdI w B A [] := fun h => absurd h (by simp)
set_option maxRecDepth 100000 in
theorem RdI.keep {w w' : World} {B : Nat} {A : Option Addr} {l : List Int} (h : RdI w B A l) (hk : ∀ p : Addr, p.block < B → w'.cell? p = w.cell? p) : RdI w' B A l := by
  intro hl
  obtain ⟨b, o, e, hb, hc⟩ := h hl
  exact ⟨b, o, e, hb, fun j hj => (hk _ (by exact hb)).trans (hc j hj)⟩
set_option maxRecDepth 100000 in
theorem RdI.more {w : World} {B B' : Nat} {A : Option Addr} {l : List Int} (h : RdI w B A l) (hB : B ≤ B') : RdI w B' A l := by
  intro hl
  obtain ⟨b, o, e, hb, hc⟩ := h hl
  exact ⟨b, o, e, by omega, hc⟩
set_option maxRecDepth 100000 in
theorem RdI.below {w w' : World} {B B' : Nat} {A : Option Addr} {l : List Int} (h : RdI w B A l) (hb : Below B' w w') (hB : B ≤ B') : RdI w' B A l :=
  h.keep fun p hp => hb.cell (p := p) (by omega)
set_option maxRecDepth 100000 in
theorem RdI.go {w w' : World} {A : Option Addr} {l : List Int} (h : RdI w w.heap.size A l) (hb : Below w.heap.size w w') : RdI w' w'.heap.size A l := (h.below hb (Nat.le_refl _)).more hb.size
set_option maxRecDepth 100000 in
theorem Rd.go {w w' : World} {A : Option Addr} {l : List UInt8} (h : Rd w w.heap.size A l) (hb : Below w.heap.size w w') : Rd w' w'.heap.size A l := (h.below hb (Nat.le_refl _)).more hb.size
set_option maxRecDepth 100000 in
theorem RdI.at_ {w : World} {B : Nat} {A : Option Addr} {l : List Int} (h : RdI w B A l) {k : Nat} (hk : k < l.length) :
    ∃ b o, A = some ⟨b, o, none⟩ ∧ b < B ∧ w.cell? ⟨b, o + k, none⟩ = some (.int .i64 l[k]) := by
  obtain ⟨b, o, e, hb, hc⟩ := h (by omega)
  exact ⟨b, o, e, hb, hc k hk⟩
def csI (l : List Int) : List Value := l.map fun b => Value.int .i64 b
set_option maxRecDepth 100000 in
theorem csI_length (l : List Int) : (csI l).length = l.length := by simp [csI]
set_option maxRecDepth 100000 in
theorem csI_append (a b : List Int) : csI (a ++ b) = csI a ++ csI b := by simp [csI]
set_option maxRecDepth 100000 in
theorem csI_get (l : List Int) (j : Nat) (h : j < l.length) : (csI l)[j]? = some (.int .i64 l[j]) := by simp [csI, h]
set_option maxRecDepth 100000 in
theorem csI_one (l : List Int) : ∀ u ∈ csI l, u.oneCell' = true := by
  intro u hu
  obtain ⟨_, _, rfl⟩ := List.mem_map.1 hu
  rfl
/-- v is the call's own slice of numbers (from block base on) -/
def OwI (w : World) (base : Nat) (v : Value) (l : List Int) : Prop := w.ownsRow base 3 1 v l.length (csI l)
set_option maxRecDepth 100000 in
theorem infoI : (Try.prog.info? 3).map (fun i => (i.zero, i.size, i.bytes)) = some (some (.int .i64 0), 1, 8) := by kernel_rfl
set_option maxRecDepth 100000 in
theorem OwI.nil {w : World} {base : Nat} : OwI w base (.slice none 0 0) [] := World.ownsRow_nil _ _ _ _
set_option maxRecDepth 100000 in
theorem OwI.alloc {w : World} {base : Nat} {v : Value} {l : List Int} (h : OwI w base v l) (o : Obj) : OwI (w.alloc o) base v l := World.ownsRow.alloc h o
set_option maxRecDepth 100000 in
theorem OwI.drew {w : World} {base : Nat} {v : Value} {l : List Int} (h : OwI w base v l) : OwI w.drew base v l := h
set_option maxRecDepth 100000 in
theorem OwI.made0 (w : World) {base : Nat} (hb : base ≤ w.heap.size) : OwI (w.alloc (.cells #[] 3)) base (.slice (some ⟨w.heap.size, 0, none⟩) 0 0) [] :=
  ⟨rfl, .inr ⟨w.heap.size, 0, #[], rfl, hb, heap_alloc_new w _, Nat.le_refl _, by simp [maxLen], rfl, rfl⟩⟩
set_option maxRecDepth 100000 in
theorem OwI.form {w : World} {base : Nat} {v : Value} {l : List Int} (h : OwI w base v l) : ∃ A c, v = .slice A l.length c ∧ l.length ≤ c ∧ c ≤ 9223372036854775807 ∧ RdI w w.heap.size A l := by
  rcases h.2 with ⟨rfl, h0⟩ | ⟨g, cap, cur, rfl, hb, hg, hn, hcap, hsz, htake⟩
  · obtain rfl : l = [] := List.eq_nil_of_length_eq_zero h0
    exact ⟨none, 0, rfl, by simp, by simp, RdI.nil⟩
  · refine ⟨some ⟨g, 0, none⟩, cap, rfl, hn, by simpa [maxLen] using hcap, fun _ => ⟨g, 0, rfl, (Array.getElem?_eq_some_iff.1 hg).1, fun j hj => ?_⟩⟩
    have := World.ownsRow.cells h (g := g) rfl j _ (csI_get l j hj)
    rwa [Addr.add_lit] at this
set_option maxRecDepth 100000 in
theorem OwI.below {w0 w w' : World} {base : Nat} {v : Value} {l : List Int} (h : OwI w base v l) (hb : Below base w0 w) (hg : w.grownBy w' v.ownBlock) (hB : base ≤ w.heap.size) : Below base w0 w' :=
  hb.grown hg hB (fun k hk => (World.ownsRow.lt h k hk).1)
set_option maxRecDepth 100000 in
theorem OwI.call {w w' : World} {base : Nat} {v : Value} {l : List Int} (h : OwI w base v l) (hb : Below w.heap.size w w') : OwI w' base v l := by
  refine ⟨h.1, ?_⟩
  rcases h.2 with h0 | ⟨g, cap, cur, e, hbg, hg, hn, hcap, hsz, htake⟩
  · exact .inl h0
  · exact .inr ⟨g, cap, cur, e, hbg, oldG hg hb (Nat.le_refl _), hn, hcap, hsz, htake⟩
set_option maxRecDepth 100000 in
/-- one number, just laid in a block of its own -/
theorem rdi_new1 (w : World) (n : Int) : RdI (w.alloc (.cells #[.int .i64 n] 3)) (w.heap.size + 1) (some ⟨w.heap.size, 0, none⟩) [n] := by
  have h2 := heap_alloc_new w (.cells #[.int .i64 n] 3)
  refine fun _ => ⟨w.heap.size, 0, rfl, by omega, fun j hj => ?_⟩
  obtain rfl : j = 0 := by simpa using hj
  exact cG1 h2
def I64s (l : List Int) : Prop := ∀ z ∈ l, -9223372036854775808 ≤ z ∧ z ≤ 9223372036854775807
end Go.Proofs.Ytegekmgelnkdbaa
