
/- Plain tools for walks: worlds, blocks; rows of numbers in memory. -/
import Derived.Test.YtcdmkmmigajbnaaJ01
import Derived.Test.YtcdmkmmigajbnaaJ04
import Derived.Deep.MidRow
import Derived.OrdersHeld
import Derived.Deep.RegionHeld3
import Derived.Deep.QuietTactic
import Derived.BigQuiet
import Derived.Deep.DeepCutAuto
namespace Go.Proofs.Ytcdmkmmigajbnaa
open Go.ChangeShapes Go.WideShapes Go.ChangeAt Go.RowKit

set_option maxRecDepth 100000 in
theorem belG {B : Nat} {w X w1 : World} (h : Below B w X) (hb : Below X.heap.size X w1) (hB : B ≤ X.heap.size) : Below B w w1 := h.trans (hb.mono hB)
set_option maxRecDepth 100000 in
theorem oldG {w w' : World} {B g : Nat} {x : Obj} (h : w.heap[g]? = some x) (hb : Below B w w') (hB : w.heap.size ≤ B) : w'.heap[g]? = some x := (hb.block g (Nat.lt_of_lt_of_le (Array.getElem?_eq_some_iff.1 h).1 hB)).trans h
set_option maxRecDepth 100000 in
theorem at_listG {P : Program} {ops : Array Oper} {rest : List Oper} {o : Oper} {a : Act} {w : World} {Q : Exit → Act → World → Prop} (h : wpList P ops Q (o :: rest) a w) : wpList P ops Q (o :: rest) a w := h
set_option maxRecDepth 100000 in
theorem cG1 {w : World} {g : Nat} {x : Value} {t : TypeId} {fr : Nat × Nat} (h : w.heap[g]? = some (.cells #[x] t fr)) : w.cell? ⟨g, 0, none⟩ = some x := (cell_of_row _ _ _ _ _ _ h).trans rfl
set_option maxRecDepth 100000 in
theorem cG2 {w : World} {g : Nat} {x y : Value} {t : TypeId} {fr : Nat × Nat} (h : w.heap[g]? = some (.cells #[x, y] t fr)) : w.cell? ⟨g, 0, none⟩ = some x ∧ w.cell? ⟨g, 1, none⟩ = some y :=
  ⟨(cell_of_row _ _ _ _ _ _ h).trans rfl, (cell_of_row _ _ _ _ _ _ h).trans rfl⟩
set_option maxRecDepth 100000 in
theorem cG3 {w : World} {g : Nat} {x y z : Value} {t : TypeId} {fr : Nat × Nat} (h : w.heap[g]? = some (.cells #[x, y, z] t fr)) : w.cell? ⟨g, 0, none⟩ = some x ∧ w.cell? ⟨g, 1, none⟩ = some y ∧ w.cell? ⟨g, 2, none⟩ = some z :=
  ⟨(cell_of_row _ _ _ _ _ _ h).trans rfl, (cell_of_row _ _ _ _ _ _ h).trans rfl, (cell_of_row _ _ _ _ _ _ h).trans rfl⟩
set_option maxRecDepth 100000 in
theorem fG {w : World} {g : Nat} {t : TypeId} {c : Array Value} (h : w.heap[g]? = some (.cells c t (0, 0))) (j : Nat) : w.frozen? ⟨g, j, none⟩ = false := frozen_of_row w g j _ _ h
set_option maxRecDepth 100000 in
theorem Below.setRowG {B : Nat} {a w : World} (h : Below B a w) {g : Nat} (hg : B ≤ g) (cs : Array Value) : Below B a (w.setRow g cs) :=
  h.trans ⟨rfl, rfl, rfl, by simp [World.setRow], fun k hk => setRow_other w g k cs (by omega)⟩
set_option maxRecDepth 100000 in
theorem setRowG_id (w : World) (g : Nat) (c : Array Value) (t : TypeId) (fr : Nat × Nat) (h : w.heap[g]? = some (.cells c t fr)) : w.setRow g c = w := by
  have e : (w.setRow g c).heap = w.heap := by
    apply Array.ext_getElem?
    intro i
    by_cases hi : i = g
    · subst hi; rw [setRow_heap _ _ _ _ _ _ h, h]
    · exact setRow_other _ _ _ _ hi
  unfold World.setRow at e ⊢
  simpa using congrArg (fun x => { w with heap := x }) e
set_option maxRecDepth 100000 in
theorem setRowG_fold (W : World) (a b : Array Value) (t : TypeId) : (W.alloc (.cells a t)).setRow W.heap.size b = W.alloc (.cells b t) := by
  simp only [World.setRow, World.alloc]
  congr 1
  apply Array.ext_getElem?
  intro i
  simp only [Array.getElem?_modify]
  by_cases h : W.heap.size = i
  · subst h; simp
  · have h' : ¬ i = W.heap.size := fun e => h e.symm
    rw [if_neg h]
    simp [Array.getElem?_push, h']
/-- answers: a slice that reads as l; and two numbers behind it -/
def AnsBG (W' : World) (e : Ending) (l : List UInt8) (n : Nat) : Prop := ∃ A c, e = .returned (.slice A n c) ∧ n ≤ c ∧ c ≤ 9223372036854775807 ∧ Rd W' W'.heap.size A l
def Ans3G (W' : World) (e : Ending) (l : List UInt8) (n : Nat) (i x : Int) : Prop := ∃ A c, e = .returned (.tuple #[.slice A n c, .int .i64 i, .int .i64 x]) ∧ n ≤ c ∧ c ≤ 9223372036854775807 ∧ Rd W' W'.heap.size A l
set_option maxRecDepth 100000 in
theorem Ans3G.none {W' : World} {x : Int} : Ans3G W' (.returned (.tuple #[.slice none 0 0, .int .i64 0, .int .i64 x])) [] 0 0 x := ⟨_, _, rfl, Nat.le_refl _, by omega, Rd.nil⟩
set_option maxRecDepth 100000 in
theorem AnsG.none {W' : World} {x : Value} : Ans W' (.returned (.tuple #[.slice none 0 0, x])) [] 0 x := ⟨_, _, rfl, Nat.le_refl _, by omega, Rd.nil⟩
set_option maxRecDepth 100000 in
theorem rd_takeG {w : World} {B : Nat} {A : Option Addr} {l : List UInt8} (h : Rd w B A l) (n : Nat) : Rd w B A (l.take n) := by
  intro h0
  rw [List.length_take] at h0
  obtain ⟨b, o, e, hb, hc⟩ := h (by omega)
  refine ⟨b, o, e, hb, fun j hj => ?_⟩
  rw [hc j (by rw [List.length_take] at hj; omega), List.getElem_take]

/-! ### numbers in memory -/
/-- the slice at the address A reads as the numbers l, below block B -/
def RdI (w : World) (B : Nat) (A : Option Addr) (l : List Int) : Prop :=
  0 < l.length → ∃ b o, A = some ⟨b, o, none⟩ ∧ b < B ∧ ∀ j (h : j < l.length), w.cell? ⟨b, o + j, none⟩ = some (.int .i64 l[j])
set_option maxRecDepth 100000 in
theorem RdI.nil {w : World} {B : Nat} {A : Option Addr} : RdI w B A [] := fun h => absurd h (by simp)
set_option maxRecDepth 100000 in
theorem RdI.keep {w w' : World} {B : Nat} {A : Option Addr} {l : List Int} (h : RdI w B A l) (hk : ∀ p : Addr, p.block < B → w'.cell? p = w.cell? p) : RdI w' B A l := by
  intro hl
  obtain ⟨b, o, e, hb, hc⟩ := h hl
  exact ⟨b, o, e, hb, fun j hj => (hk _ (by exact hb)).trans (hc j hj)⟩
set_option maxRecDepth 100000 in
theorem RdI.more {w : World} {B B' : Nat} {A : Option Addr} {l : List Int} (h : RdI w B A l) (hB : B ≤ B') : RdI w B' A l := by
  intro hl
  obtain ⟨b, o, e, hb, hc⟩ := h hl
  exact ⟨b, o, e, by omega, hc⟩
set_option maxRecDepth 100000 in
theorem RdI.below {w w' : World} {B B' : Nat} {A : Option Addr} {l : List Int} (h : RdI w B A l) (hb : Below B' w w') (hB : B ≤ B') : RdI w' B A l :=
  h.keep fun p hp => hb.cell (p := p) (by omega)
set_option maxRecDepth 100000 in
theorem RdI.go {w w' : World} {A : Option Addr} {l : List Int} (h : RdI w w.heap.size A l) (hb : Below w.heap.size w w') : RdI w' w'.heap.size A l := (h.below hb (Nat.le_refl _)).more hb.size
set_option maxRecDepth 100000 in
theorem Rd.go {w w' : World} {A : Option Addr} {l : List UInt8} (h : Rd w w.heap.size A l) (hb : Below w.heap.size w w') : Rd w' w'.heap.size A l := (h.below hb (Nat.le_refl _)).more hb.size
set_option maxRecDepth 100000 in
theorem RdI.at_ {w : World} {B : Nat} {A : Option Addr} {l : List Int} (h : RdI w B A l) {k : Nat} (hk : k < l.length) :
    ∃ b o, A = some ⟨b, o, none⟩ ∧ b < B ∧ w.cell? ⟨b, o + k, none⟩ = some (.int .i64 l[k]) := by
  obtain ⟨b, o, e, hb, hc⟩ := h (by omega)
  exact ⟨b, o, e, hb, hc k hk⟩
def csI (l : List Int) : List Value := l.map fun b => Value.int .i64 b
set_option maxRecDepth 100000 in
theorem csI_length (l : List Int) : (csI l).length = l.length := by simp [csI]
set_option maxRecDepth 100000 in
theorem csI_append (a b : List Int) : csI (a ++ b) = csI a ++ csI b := by simp [csI]
set_option maxRecDepth 100000 in
theorem csI_get (l : List Int) (j : Nat) (h : j < l.length) : (csI l)[j]? = some (.int .i64 l[j]) := by simp [csI, h]
set_option maxRecDepth 100000 in
theorem csI_one (l : List Int) : ∀ u ∈ csI l, u.oneCell' = true := by
  intro u hu
  obtain ⟨_, _, rfl⟩ := List.mem_map.1 hu
  rfl
/-- v is the call's own slice of numbers (from block base on) -/
def OwI (w : World) (base : Nat) (v : Value) (l : List Int) : Prop := w.ownsRow base 3 1 v l.length (csI l)
set_option maxRecDepth 100000 in
theorem infoI : (Try.prog.info? 3).map (fun i => (i.zero, i.size, i.bytes)) = some (some (.int .i64 0), 1, 8) := by kernel_rfl
set_option maxRecDepth 100000 in
theorem OwI.nil {w : World} {base : Nat} : OwI w base (.slice none 0 0) [] := World.ownsRow_nil _ _ _ _
set_option maxRecDepth 100000 in
theorem OwI.alloc {w : World} {base : Nat} {v : Value} {l : List Int} (h : OwI w base v l) (o : Obj) : OwI (w.alloc o) base v l := World.ownsRow.alloc h o
set_option maxRecDepth 100000 in
theorem OwI.drew {w : World} {base : Nat} {v : Value} {l : List Int} (h : OwI w base v l) : OwI w.drew base v l := h
set_option maxRecDepth 100000 in
theorem OwI.made0 (w : World) {base : Nat} (hb : base ≤ w.heap.size) : OwI (w.alloc (.cells #[] 3)) base (.slice (some ⟨w.heap.size, 0, none⟩) 0 0) [] :=
  ⟨rfl, .inr ⟨w.heap.size, 0, #[], rfl, hb, heap_alloc_new w _, Nat.le_refl _, by simp [maxLen], rfl, rfl⟩⟩
set_option maxRecDepth 100000 in
theorem OwI.form {w : World} {base : Nat} {v : Value} {l : List Int} (h : OwI w base v l) : ∃ A c, v = .slice A l.length c ∧ l.length ≤ c ∧ c ≤ 9223372036854775807 ∧ RdI w w.heap.size A l := by
  rcases h.2 with ⟨rfl, h0⟩ | ⟨g, cap, cur, rfl, hb, hg, hn, hcap, hsz, htake⟩
  · obtain rfl : l = [] := List.eq_nil_of_length_eq_zero h0
    exact ⟨none, 0, rfl, by simp, by simp, RdI.nil⟩
  · refine ⟨some ⟨g, 0, none⟩, cap, rfl, hn, by simpa [maxLen] using hcap, fun _ => ⟨g, 0, rfl, (Array.getElem?_eq_some_iff.1 hg).1, fun j hj => ?_⟩⟩
    have := World.ownsRow.cells h (g := g) rfl j _ (csI_get l j hj)
    rwa [Addr.add_lit] at this
set_option maxRecDepth 100000 in
theorem OwI.below {w0 w w' : World} {base : Nat} {v : Value} {l : List Int} (h : OwI w base v l) (hb : Below base w0 w) (hg : w.grownBy w' v.ownBlock) (hB : base ≤ w.heap.size) : Below base w0 w' :=
  hb.grown hg hB (fun k hk => (World.ownsRow.lt h k hk).1)
set_option maxRecDepth 100000 in
theorem OwI.call {w w' : World} {base : Nat} {v : Value} {l : List Int} (h : OwI w base v l) (hb : Below w.heap.size w w') : OwI w' base v l := by
  refine ⟨h.1, ?_⟩
  rcases h.2 with h0 | ⟨g, cap, cur, e, hbg, hg, hn, hcap, hsz, htake⟩
  · exact .inl h0
  · exact .inr ⟨g, cap, cur, e, hbg, oldG hg hb (Nat.le_refl _), hn, hcap, hsz, htake⟩
set_option maxRecDepth 100000 in
theorem run_appI (ty : TypeId) (w : World) (base : Nat) (v : Value) (l news : List Int) (h : OwI w base v l) (A : Option Addr) (c B : Nat) (hr : RdI w B A news)
    (hlen : l.length + news.length ≤ 10000000) (hbase : base ≤ w.heap.size) :
    ∃ v' w', (Builtin.append_ #[28, 28] ty #[v, .slice A news.length c]).run Try.prog w = .ok v' w' ∧ OwI w' base v' (l ++ news) ∧ w.grownBy w' v.ownBlock := by
  obtain ⟨i0, hi, hz0, hz1, hz2⟩ := info_parts infoI
  cases A with
  | some ad =>
    have hnews : ∀ j u, (csI news)[j]? = some u → w.cell? (ad.add j) = some u := by
      by_cases h0 : 0 < news.length
      · obtain ⟨b, o, e, _, hc⟩ := hr h0
        cases e
        intro j u hu
        have hj : j < news.length := by
          have := (List.getElem?_eq_some_iff.1 hu).1
          simpa [csI] using this
        rw [csI_get news j hj] at hu
        rw [Addr.add_lit, hc j hj]
        exact hu
      · have e : news = [] := List.eq_nil_of_length_eq_zero (by omega)
        subst e
        intro j u hu
        simp [csI] at hu
    obtain ⟨v', w', h1, h2, h3, _⟩ := run_append_own (P := Try.prog) w base 28 ty 3 i0 (.int .i64 0) 1 8 Try.underlying28 hi hz0 hz1 hz2 rfl (by decide) v l.length (csI l) h ad news.length c (csI news) (by simp [csI]) hnews (csI_one news) (by unfold maxLen; omega) (by omega) hbase
    exact ⟨v', w', h1, by unfold OwI; rw [List.length_append, csI_append]; exact h2, h3⟩
  | none =>
    have e : news = [] := by
      apply List.eq_nil_of_length_eq_zero
      by_cases h0 : 0 < news.length
      · obtain ⟨b, o, e, _⟩ := hr h0; cases e
      · omega
    subst e
    refine ⟨v, w, ?_, by simpa using h, World.grownBy.refl w _⟩
    rcases h.2 with ⟨rfl, _⟩ | ⟨g, cap, cur, rfl, _, _, hnc, _⟩
    · simp [Builtin.append_, run_underlying Try.underlying28, sizeOf, typeInfo, hi, Builtin.lenOf, Builtin.firstCells]
    · simp [Builtin.append_, run_underlying Try.underlying28, sizeOf, typeInfo, hi, Builtin.lenOf, Builtin.firstCells, hnc, storeCells]
set_option maxRecDepth 100000 in
theorem wpList_appI {ops : Array Oper} {rest : List Oper} {o : Oper} {a : Act} {Q : Exit → Act → World → Prop} (w : World) (hw : Region.wanted o (yielded ops a.tmps) = true) (s x : Operand)
    (ho : o.op = .call { callee := .builtin .append, args := #[s, x], argTypes := #[28, 28] })
    (base : Nat) (v : Value) (l news : List Int) (hs : a.eval s = v) (h : OwI w base v l) (A : Option Addr) (m c B : Nat) (hx : a.eval x = .slice A m c) (hm : m = news.length)
    (hr : RdI w B A news) (hlen : l.length + news.length ≤ 10000000) (hbase : base ≤ w.heap.size)
    (hK : ∀ v' w', OwI w' base v' (l ++ news) → w.grownBy w' v.ownBlock → wpList Try.prog ops Q rest (a.put o.dst v') w') : wpList Try.prog ops Q (o :: rest) a w := by
  subst hm
  obtain ⟨v', w', hr, h2, h3⟩ := run_appI o.type w base v l news h A c B hr hlen hbase
  refine BigFrame.wpList_want hw fun _ hK' => ?_
  unfold Oper.wp execOp
  simp only [ho, resolve, invoke, builtin, Sem.run_bind, Sem.run_pure, Result.andThen_ok, List.map_toArray, List.map_cons, List.map_nil, hs, hx, hr]
  exact hK' _ _ (hK v' w' h2 h3)
set_option maxRecDepth 100000 in
/-- one number, just laid in a block of its own -/
theorem rdi_new1 (w : World) (n : Int) : RdI (w.alloc (.cells #[.int .i64 n] 3)) (w.heap.size + 1) (some ⟨w.heap.size, 0, none⟩) [n] := by
  have h2 := heap_alloc_new w (.cells #[.int .i64 n] 3)
  refine fun _ => ⟨w.heap.size, 0, rfl, by omega, fun j hj => ?_⟩
  obtain rfl : j = 0 := by simpa using hj
  exact cG1 h2
def I64s (l : List Int) : Prop := ∀ z ∈ l, -9223372036854775808 ≤ z ∧ z ≤ 9223372036854775807
set_option maxRecDepth 100000 in
/-- a slice value that reads as data: its numbers -/
theorem ints_in {H : Type} {enc : TypeId × Value → H} {W : World} {base fuel : Nat} {spare : Nat → Bool} {held : Bool} {a : Option Addr} {n c : Nat} {y : DataW H × List MemPlace}
    (hf : DataW.trod enc Try.prog W base spare held fuel 28 [.slice a n c] = some y) : ∃ l : List Int, n = l.length ∧ l.length ≤ c ∧ c ≤ 9223372036854775807 ∧ I64s l ∧ RdI W W.heap.size a l := by
  rcases open_ints Try.underlying28 Try.underlying3 (by kernel_rfl) hf with ⟨hcs, _⟩ | ⟨x, l, c', zs, hcs, _, hl, hm, hz, _, hcell, hwz⟩
  · simp at hcs
    obtain ⟨rfl, rfl, rfl⟩ := hcs
    exact ⟨[], rfl, by simp, by omega, fun z hz => absurd hz (by simp), RdI.nil⟩
  · simp at hcs
    obtain ⟨rfl, rfl, rfl⟩ := hcs
    have hzl : n ≤ zs.length := by
      rw [hz]
      split <;> omega
    refine ⟨zs.take n, by simp; omega, by simp; omega, by simpa [maxLen] using hm, fun z hz => i64_bd (hwz z (List.mem_of_mem_take hz)), fun h0 => ?_⟩
    have h0' : 0 < n := by simp at h0; omega
    obtain ⟨b, o, spot⟩ := x
    have hc0 := hcell 0 (by omega)
    have hspot : spot = none := by simpa [Addr.add] using World.cell?_spot hc0
    subst hspot
    refine ⟨b, o, rfl, World.block_lt_of_cell? W ⟨b, o, none⟩ (by simpa [Addr.add] using hc0), fun j hj => ?_⟩
    have hj' : j < n := by simp at hj; omega
    have hc := hcell j (by omega)
    rw [Addr.add_lit] at hc
    rw [hc]
    have hzj : j < zs.length := by omega
    have e : zs.getD j 0 = zs[j] := by simp [List.getD, hzj]
    rw [e]
    simp only [List.getElem_take]
end Go.Proofs.Ytcdmkmmigajbnaa
/- Structs in memory, of any type: a box and its cells; loads, stores and returns, whole and in part. -/

namespace Go.Proofs.Ytcdmkmmigajbnaa
open Go.RowKit

/-- a type of n cells that is a struct or an array -/
structure Ty (T : TypeId) (n : Nat) : Prop where
  is : ∃ d, Try.prog.underlying T = some d ∧ d.isRow = true
  size : (Try.prog.info? T).map (·.size) = some n
/-- the box at g holds the cells C of a T -/
def Bx (w : World) (g : Nat) (T : TypeId) (C : Array Value) : Prop := w.heap[g]? = some (.cells C T (0, 0))
set_option maxRecDepth 100000 in
theorem Bx.lt {w : World} {g : Nat} {T : TypeId} {C : Array Value} (k : Bx w g T C) : g < w.heap.size := (Array.getElem?_eq_some_iff.1 k).1
set_option maxRecDepth 100000 in
theorem Bx.cell {w : World} {g : Nat} {T : TypeId} {C : Array Value} (k : Bx w g T C) {j : Nat} {v : Value} (hv : C[j]? = some v) : w.cell? ⟨g, j, none⟩ = some v := (cell_of_row _ _ _ _ _ _ k).trans hv
set_option maxRecDepth 100000 in
theorem Bx.thaw {w : World} {g : Nat} {T : TypeId} {C : Array Value} (k : Bx w g T C) (j : Nat) : w.frozen? ⟨g, j, none⟩ = false := frozen_of_row w g j _ _ k
set_option maxRecDepth 100000 in
theorem Bx.old {w w' : World} {B g : Nat} {T : TypeId} {C : Array Value} (k : Bx w g T C) (hb : Below B w w') (hB : w.heap.size ≤ B) : Bx w' g T C := oldG k hb hB
set_option maxRecDepth 100000 in
theorem Bx.go {w w' : World} {g : Nat} {T : TypeId} {C : Array Value} (k : Bx w g T C) (hb : Below w.heap.size w w') : Bx w' g T C := oldG k hb (Nat.le_refl _)
set_option maxRecDepth 100000 in
theorem Bx.drew {w : World} {g : Nat} {T : TypeId} {C : Array Value} (k : Bx w g T C) : Bx w.drew g T C := k
set_option maxRecDepth 100000 in
theorem Bx.set {w : World} {g : Nat} {T : TypeId} {C C' : Array Value} (k : Bx w g T C) {j : Nat} {v : Value} (e : C.setIfInBounds j v = C') : Bx (w.setCell ⟨g, j, none⟩ v) g T C' := by
  have h1 := heap_setCell_same w g j _ _ v k
  rw [e] at h1
  exact h1
set_option maxRecDepth 100000 in
theorem Bx.setOther {w : World} {g k : Nat} {T : TypeId} {C : Array Value} (h : Bx w g T C) (hne : g ≠ k) (j : Nat) (v : Value) : Bx (w.setCell ⟨k, j, none⟩ v) g T C := (heap_setCell_other w ⟨k, j, none⟩ g v hne).trans h
set_option maxRecDepth 100000 in
theorem Bx.new (w : World) (T : TypeId) (C : Array Value) : Bx (w.alloc (.cells C T)) w.heap.size T C := heap_alloc_new w _
set_option maxRecDepth 100000 in
theorem Bx.alloc {w : World} {g : Nat} {T : TypeId} {C : Array Value} (k : Bx w g T C) (o : Obj) : Bx (w.alloc o) g T C := (heap_alloc_old w o k.lt).trans k
set_option maxRecDepth 100000 in
theorem Bx.setRow {w : World} {g : Nat} {T : TypeId} {C : Array Value} (k : Bx w g T C) (C' : Array Value) : Bx (w.setRow g C') g T C' := setRow_heap _ _ _ _ _ _ k
set_option maxRecDepth 100000 in
theorem Bx.setRowOther {w : World} {g k : Nat} {T : TypeId} {C : Array Value} (h : Bx w g T C) (hne : g ≠ k) (C' : Array Value) : Bx (w.setRow k C') g T C := (setRow_other w k g C' hne).trans h
set_option maxRecDepth 100000 in
theorem Bx.ne {w : World} {g k : Nat} {T U : TypeId} {C D : Array Value} (h : Bx w g T C) (h2 : Bx w k U D) (hTU : T ≠ U) : g ≠ k := fun e => by
  subst e
  have h3 := h.symm.trans h2
  simp only [Option.some.injEq, Obj.cells.injEq] at h3
  exact hTU h3.2.1
set_option maxRecDepth 100000 in
theorem run_varX {w : World} {g : Nat} {T : TypeId} {n : Nat} {C : Array Value} (ty : Ty T n) (hn : C.size = n) (k : Bx w g T C) : (loadVar T ⟨g, 0, none⟩).run Try.prog w = .ok (.agg C) w := by
  obtain ⟨⟨d, hu, hd⟩, hs⟩ := ty
  have := run_loadVar_mid (P := Try.prog) w g 0 T C.toList d (fun j v hv => by rw [Nat.zero_add]; exact k.cell (by simpa using hv)) hu hd (by rw [Array.length_toList, hn]; exact hs)
  simpa using this
set_option maxRecDepth 100000 in
theorem run_loadX {w : World} {g : Nat} {T : TypeId} {n : Nat} {C : Array Value} (ty : Ty T n) (hn : C.size = n) (k : Bx w g T C) : (Instr.loadAt T (.pointer (some ⟨g, 0, none⟩))).run Try.prog w = .ok (.agg C) w := by
  simp only [Instr.loadAt, Instr.sureAddr, Sem.run_bind, Sem.run_pure, Result.andThen_ok, run_varX ty hn k]
set_option maxRecDepth 100000 in
theorem loadX {ops : Array Oper} {rest : List Oper} {o : Oper} {a : Act} {Q : Exit → Act → World → Prop} {W : World} {T : TypeId} {n : Nat} (p : Operand) (g : Nat) (C : Array Value) (ty : Ty T n) (hn : C.size = n)
    (hg : Bx W g T C) (hw : Region.wanted o (yielded ops a.tmps) = true) (ho : o.op = .load T p) (hx : a.eval p = .pointer (some ⟨g, 0, none⟩))
    (hK : wpList Try.prog ops Q rest (a.put o.dst (.agg C)) W) : wpList Try.prog ops Q (o :: rest) a W := by
  refine BigFrame.wpList_want hw fun _ hK' => ?_
  unfold Oper.wp execOp
  simp only [ho, hx, Instr.loadAt, Instr.sureAddr, Sem.run_bind, Sem.run_pure, Result.andThen_ok, run_varX ty hn hg]
  exact hK' _ _ hK
set_option maxRecDepth 100000 in
theorem storeX {ops : Array Oper} {rest : List Oper} {o : Oper} {a : Act} {Q : Exit → Act → World → Prop} {W : World} {T : TypeId} {n : Nat} (p y : Operand) (g : Nat) (C old : Array Value) (ty : Ty T n) (hn : C.size = n) (h1 : C.all (·.oneCell') = true)
    (hg : Bx W g T old) (hold : old.size = n) (hw : Region.wanted o (yielded ops a.tmps) = true) (ho : o.op = .store T p y) (hx : a.eval p = .pointer (some ⟨g, 0, none⟩)) (hy : a.eval y = .agg C)
    (hK : wpList Try.prog ops Q rest (a.put o.dst undef) (W.setRow g C)) : wpList Try.prog ops Q (o :: rest) a W :=
  BigFrame.wpList_want hw fun _ hK' => wp_store_row T p y ho g C hx hy T old hg (by rw [hn]; exact ty.size) (by rw [hn]; exact hold) h1 (hK' _ _ hK)
/-- cells of a part -/
def Part (C : Array Value) (o : Nat) (D : Array Value) : Prop := ∀ j v, D[j]? = some v → C[o + j]? = some v
set_option maxRecDepth 100000 in
theorem Bx.range {w : World} {g o : Nat} {T : TypeId} {C D : Array Value} (k : Bx w g T C) (h : Part C o D) : w.rangeAt g o D.toList := fun j v hv => k.cell (h j v (by simpa using hv))
set_option maxRecDepth 100000 in
theorem run_loadP {w : World} {g o : Nat} {T U : TypeId} {m : Nat} {C D : Array Value} (ty : Ty U m) (hm : D.size = m) (k : Bx w g T C) (h : Part C o D) : (Instr.loadAt U (.pointer (some ⟨g, o, none⟩))).run Try.prog w = .ok (.agg D) w := by
  obtain ⟨⟨d, hu, hd⟩, hs⟩ := ty
  have := run_loadAt_mid (P := Try.prog) w g o U D.toList d (k.range h) hu hd (by rw [Array.length_toList, hm]; exact hs)
  simpa using this
set_option maxRecDepth 100000 in
theorem loadPx {ops : Array Oper} {rest : List Oper} {op : Oper} {a : Act} {Q : Exit → Act → World → Prop} {W : World} {T U : TypeId} {m : Nat} (p : Operand) (g o : Nat) (C D : Array Value) (ty : Ty U m) (hm : D.size = m) (hP : Part C o D)
    (hg : Bx W g T C) (hw : Region.wanted op (yielded ops a.tmps) = true) (ho : op.op = .load U p) (hx : a.eval p = .pointer (some ⟨g, o, none⟩))
    (hK : wpList Try.prog ops Q rest (a.put op.dst (.agg D)) W) : wpList Try.prog ops Q (op :: rest) a W := by
  obtain ⟨⟨d, hu, hd⟩, hs⟩ := ty
  refine BigFrame.wpList_want hw fun _ hK' => wp_load_mid (P := Try.prog) U p ho g o hx D.toList d (hg.range hP) hu hd (by rw [Array.length_toList, hm]; exact hs) ?_
  simpa using hK' _ _ hK
/-- a part is stored: what lies there then -/
def putP (C : Array Value) (o : Nat) : List Value → Array Value
  | [] => C
  | v :: r => putP (C.setIfInBounds o v) (o + 1) r
set_option maxRecDepth 100000 in
theorem Bx.putP {w : World} {g : Nat} {T : TypeId} : ∀ {C : Array Value} (l : List Value) (o : Nat), Bx w g T C → Bx (w.setCells g o l) g T (putP C o l)
  | _, [], _, k => k
  | C, v :: r, o, k => by
    show Bx ((w.setCell ⟨g, o, none⟩ v).setCells g (o + 1) r) g T (Proofs.Ytcdmkmmigajbnaa.putP (C.setIfInBounds o v) (o + 1) r)
    exact Bx.putP (w := w.setCell ⟨g, o, none⟩ v) r (o + 1) (k.set rfl)
set_option maxRecDepth 100000 in
theorem setCells_block (g : Nat) : ∀ (l : List Value) (o : Nat) (w : World) (k : Nat), k ≠ g → (w.setCells g o l).heap[k]? = w.heap[k]?
  | [], _, _, _, _ => rfl
  | v :: r, o, w, k, h => by
    rw [World.setCells, setCells_block g r (o + 1) _ k h]
    exact heap_setCell_other w ⟨g, o, none⟩ k v h
set_option maxRecDepth 100000 in
theorem Bx.putOther {w : World} {g k : Nat} {T : TypeId} {C : Array Value} (h : Bx w g T C) (hne : g ≠ k) (o : Nat) (l : List Value) : Bx (w.setCells k o l) g T C := (setCells_block k l o w g hne).trans h
set_option maxRecDepth 100000 in
theorem Below.setCellsG {B : Nat} {a : World} {g : Nat} (hg : B ≤ g) : ∀ (l : List Value) (o : Nat) (w : World), Below B a w → Below B a (w.setCells g o l)
  | [], _, _, h => h
  | v :: r, o, _w, h => Below.setCellsG hg r (o + 1) _ (h.setCell (p := ⟨g, o, none⟩) hg v)
set_option maxRecDepth 100000 in
theorem storePx {ops : Array Oper} {rest : List Oper} {op : Oper} {a : Act} {Q : Exit → Act → World → Prop} {W : World} {T U : TypeId} {m : Nat} (p y : Operand) (g o : Nat) (C D : Array Value) (ty : Ty U m) (hm : D.size = m) (h1 : D.all (·.oneCell') = true)
    (hg : Bx W g T C) (hC : o + m ≤ C.size) (hw : Region.wanted op (yielded ops a.tmps) = true) (ho : op.op = .store U p y) (hx : a.eval p = .pointer (some ⟨g, o, none⟩)) (hy : a.eval y = .agg D)
    (hK : wpList Try.prog ops Q rest (a.put op.dst undef) (W.setCells g o D.toList)) : wpList Try.prog ops Q (op :: rest) a W := by
  refine BigFrame.wpList_want hw fun _ hK' => wp_store_mid (P := Try.prog) U p y ho g o D hx hy (fun j hj => ?_) (by rw [hm]; exact ty.size) h1 (hK' _ _ hK)
  refine ⟨?_, hg.thaw _⟩
  rw [hg.cell (Array.getElem?_eq_getElem (show o + j < C.size by omega))]
  rfl
set_option maxRecDepth 100000 in
/-- the answer is a box alone, or a box and one, two more -/
theorem retX1 {fn : Func} {p : Tmp} {T : TypeId} (h : fn.results = #[.cell p T]) (tmps : Array Value) (W : World) (g : Nat) {n : Nat} (C : Array Value) (ty : Ty T n) (hn : C.size = n) (hp : tmps.getD p undef = .pointer (some ⟨g, 0, none⟩)) (hg : Bx W g T C) :
    (results fn tmps).run Try.prog W = .ok (.agg C) W := by
  have hp' : tmps[p]?.getD undef = .pointer (some ⟨g, 0, none⟩) := by simpa using hp
  simp [results, h, hp', asAddr, run_varX ty hn hg]
set_option maxRecDepth 100000 in
theorem retX2 {fn : Func} {p q : Tmp} {T : TypeId} (h : fn.results = #[.cell p T, .tmp q]) (tmps : Array Value) (W : World) (g : Nat) {n : Nat} (C : Array Value) (v : Value) (ty : Ty T n) (hn : C.size = n) (hp : tmps.getD p undef = .pointer (some ⟨g, 0, none⟩)) (hq : tmps.getD q undef = v) (hg : Bx W g T C) :
    (results fn tmps).run Try.prog W = .ok (.tuple #[.agg C, v]) W := by
  have hp' : tmps[p]?.getD undef = .pointer (some ⟨g, 0, none⟩) := by simpa using hp
  have hq' : tmps[q]?.getD undef = v := by simpa using hq
  simp [results, h, hp', hq', asAddr, run_varX ty hn hg]
set_option maxRecDepth 100000 in
theorem retX3 {fn : Func} {p q s : Tmp} {T : TypeId} (h : fn.results = #[.cell p T, .tmp q, .tmp s]) (tmps : Array Value) (W : World) (g : Nat) {n : Nat} (C : Array Value) (v u : Value) (ty : Ty T n) (hn : C.size = n) (hp : tmps.getD p undef = .pointer (some ⟨g, 0, none⟩)) (hq : tmps.getD q undef = v) (hs2 : tmps.getD s undef = u) (hg : Bx W g T C) :
    (results fn tmps).run Try.prog W = .ok (.tuple #[.agg C, v, u]) W := by
  have hp' : tmps[p]?.getD undef = .pointer (some ⟨g, 0, none⟩) := by simpa using hp
  have hq' : tmps[q]?.getD undef = v := by simpa using hq
  have hs' : tmps[s]?.getD undef = u := by simpa using hs2
  simp [results, h, hp', hq', hs', asAddr, run_varX ty hn hg]
set_option maxRecDepth 100000 in
/-- in a region that draws -/
theorem yieldsX {ops : Array Oper} {S : World → Prop} {o : Oper} {a : Act} {T : TypeId} (hw : Region.wanted o (yielded ops a.tmps) = true) (p : Operand) (ho : o.op = .load T p) (ad : Addr) (hx : a.eval p = .pointer (some ad)) (C : Array Value)
    (hS : ∀ w, S w → (Instr.loadAt T (.pointer (some ad))).run Try.prog w = .ok (.agg C) w) : YieldsIf Try.prog ops S o (.agg C) a :=
  .inl ⟨hw, fun w hw' => by
    unfold execOp
    simp only [ho, hx, Sem.run_bind, Sem.run_pure, Result.andThen_ok, hS w hw']⟩
/-! ### boxes that are made -/
set_option maxRecDepth 100000 in
theorem bx1 (W : World) (T : TypeId) (C : Array Value) : ∃ V, V = W.alloc (.cells C T) ∧ Below W.heap.size W V ∧ Bx V W.heap.size T C := ⟨_, rfl, (Below.refl W.heap.size W).alloc (Nat.le_refl _) _, heap_alloc_new W _⟩
set_option maxRecDepth 100000 in
theorem bx2 (W : World) (T U : TypeId) (C D : Array Value) : ∃ V, V = (W.alloc (.cells C T)).alloc (.cells D U) ∧ Below W.heap.size W V ∧ Bx V W.heap.size T C ∧ Bx V (W.heap.size + 1) U D ∧ V.heap.size = W.heap.size + 2 := by
  refine ⟨_, rfl, ((Below.refl W.heap.size W).alloc (Nat.le_refl _) _).alloc (by rw [World.size_alloc]; omega) _, ?_, ?_, by simp⟩
  · exact (heap_alloc_old (W.alloc (.cells C T)) _ (by rw [World.size_alloc]; omega)).trans (heap_alloc_new W _)
  · have h := heap_alloc_new (W.alloc (.cells C T)) (.cells D U)
    rwa [World.size_alloc] at h
set_option maxRecDepth 100000 in
theorem bx3 (W : World) (T U X : TypeId) (C D E : Array Value) : ∃ V, V = ((W.alloc (.cells C T)).alloc (.cells D U)).alloc (.cells E X) ∧ Below W.heap.size W V ∧ Bx V W.heap.size T C ∧ Bx V (W.heap.size + 1) U D ∧ Bx V (W.heap.size + 2) X E ∧ V.heap.size = W.heap.size + 3 := by
  obtain ⟨V, rfl, hb, h1, h2, hs⟩ := bx2 W T U C D
  refine ⟨_, rfl, hb.alloc (by omega) _, h1.alloc _, h2.alloc _, ?_, by simp⟩
  have h := heap_alloc_new ((W.alloc (.cells C T)).alloc (.cells D U)) (.cells E X)
  rwa [hs] at h
end Go.Proofs.Ytcdmkmmigajbnaa
