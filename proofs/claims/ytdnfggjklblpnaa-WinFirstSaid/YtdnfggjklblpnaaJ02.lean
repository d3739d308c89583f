
/- Plain tools for walks: worlds, blocks; rows of numbers in memory. -/
import Derived.Test.YtdnfggjklblpnaaJ01
import Derived.ChangeKeysEq
import Derived.Deep.QuietTactic
import Derived.BigQuiet
import Derived.Deep.DeepCutAuto
namespace Go.Proofs.Ytdnfggjklblpnaa
open Go.ChangeShapes Go.WideShapes Go.ChangeAt Go.RowKit

set_option maxRecDepth 100000 in
theorem belG {B : Nat} {w X w1 : World} (h : Below B w X) (hb : Below X.heap.size X w1) (hB : B ≤ X.heap.size) : Below B w w1 := h.trans (hb.mono hB)
set_option maxRecDepth 100000 in
theorem oldG {w w' : World} {B g : Nat} {x : Obj} (h : w.heap[g]? = some x) (hb : Below B w w') (hB : w.heap.size ≤ B) : w'.heap[g]? = some x := (hb.block g (Nat.lt_of_lt_of_le (Array.getElem?_eq_some_iff.1 h).1 hB)).trans h
set_option maxRecDepth 100000 in
theorem at_listG {P : Program} {ops : Array Oper} {rest : List Oper} {o : Oper} {a : Act} {w : World} {Q : Exit → Act → World → Prop} (h : wpList P ops Q (o :: rest) a w) : wpList P ops Q (o :: rest) a w := h
set_option maxRecDepth 100000 in
theorem cG1 {w : World} {g : Nat} {x : Value} {t : TypeId} {fr : Nat × Nat} (h : w.heap[g]? = some (.cells #[x] t fr)) : w.cell? ⟨g, 0, none⟩ = some x := (cell_of_row _ _ _ _ _ _ h).trans rfl
set_option maxRecDepth 100000 in
theorem cG2 {w : World} {g : Nat} {x y : Value} {t : TypeId} {fr : Nat × Nat} (h : w.heap[g]? = some (.cells #[x, y] t fr)) : w.cell? ⟨g, 0, none⟩ = some x ∧ w.cell? ⟨g, 1, none⟩ = some y :=
  ⟨(cell_of_row _ _ _ _ _ _ h).trans rfl, (cell_of_row _ _ _ _ _ _ h).trans rfl⟩
set_option maxRecDepth 100000 in
theorem cG3 {w : World} {g : Nat} {x y z : Value} {t : TypeId} {fr : Nat × Nat} (h : w.heap[g]? = some (.cells #[x, y, z] t fr)) : w.cell? ⟨g, 0, none⟩ = some x ∧ w.cell? ⟨g, 1, none⟩ = some y ∧ w.cell? ⟨g, 2, none⟩ = some z :=
  ⟨(cell_of_row _ _ _ _ _ _ h).trans rfl, (cell_of_row _ _ _ _ _ _ h).trans rfl, (cell_of_row _ _ _ _ _ _ h).trans rfl⟩
set_option maxRecDepth 100000 in
theorem fG {w : World} {g : Nat} {t : TypeId} {c : Array Value} (h : w.heap[g]? = some (.cells c t (0, 0))) (j : Nat) : w.frozen? ⟨g, j, none⟩ = false := frozen_of_row w g j _ _ h
set_option maxRecDepth 100000 in
theorem Below.setRowG {B : Nat} {a w : World} (h : Below B a w) {g : Nat} (hg : B ≤ g) (cs : Array Value) : Below B a (w.setRow g cs) :=
  h.trans ⟨rfl, rfl, rfl, by simp [World.setRow], fun k hk => setRow_other w g k cs (by omega)⟩
set_option maxRecDepth 100000 in
theorem setRowG_id (w : World) (g : Nat) (c : Array Value) (t : TypeId) (fr : Nat × Nat) (h : w.heap[g]? = some (.cells c t fr)) : w.setRow g c = w := by
  have e : (w.setRow g c).heap = w.heap := by
    apply Array.ext_getElem?
    intro i
    by_cases hi : i = g
    · subst hi; rw [setRow_heap _ _ _ _ _ _ h, h]
    · exact setRow_other _ _ _ _ hi
  unfold World.setRow at e ⊢
  simpa using congrArg (fun x => { w with heap := x }) e
set_option maxRecDepth 100000 in
theorem setRowG_fold (W : World) (a b : Array Value) (t : TypeId) : (W.alloc (.cells a t)).setRow W.heap.size b = W.alloc (.cells b t) := by
  simp only [World.setRow, World.alloc]
  congr 1
  apply Array.ext_getElem?
  intro i
  simp only [Array.getElem?_modify]
  by_cases h : W.heap.size = i
  · subst h; simp
  · have h' : ¬ i = W.heap.size := fun e => h e.symm
    rw [if_neg h]
    simp [Array.getElem?_push, h']
/-- answers: a slice that reads as l; and two numbers behind it -/
def AnsBG (W' : World) (e : Ending) (l : List UInt8) (n : Nat) : Prop := ∃ A c, e = .returned (.slice A n c) ∧ n ≤ c ∧ c ≤ 9223372036854775807 ∧ Rd W' W'.heap.size A l
def Ans3G (W' : World) (e : Ending) (l : List UInt8) (n : Nat) (i x : Int) : Prop := ∃ A c, e = .returned (.tuple #[.slice A n c, .int .i64 i, .int .i64 x]) ∧ n ≤ c ∧ c ≤ 9223372036854775807 ∧ Rd W' W'.heap.size A l
set_option maxRecDepth 100000 in
theorem Ans3G.none {W' : World} {x : Int} : Ans3G W' (.returned (.tuple #[.slice none 0 0, .int .i64 0, .int .i64 x])) [] 0 0 x := ⟨_, _, rfl, Nat.le_refl _, by omega, Rd.nil⟩
set_option maxRecDepth 100000 in
theorem AnsG.none {W' : World} {x : Value} : Ans W' (.returned (.tuple #[.slice none 0 0, x])) [] 0 x := ⟨_, _, rfl, Nat.le_refl _, by omega, Rd.nil⟩
set_option maxRecDepth 100000 in
theorem rd_takeG {w : World} {B : Nat} {A : Option Addr} {l : List UInt8} (h : Rd w B A l) (n : Nat) : Rd w B A (l.take n) := by
  intro h0
  rw [List.length_take] at h0
  obtain ⟨b, o, e, hb, hc⟩ := h (by omega)
  refine ⟨b, o, e, hb, fun j hj => ?_⟩
  rw [hc j (by rw [List.length_take] at hj; omega), List.getElem_take]

/-! ### numbers in memory -/
/-- the slice at the address A reads as the numbers l, below block B -/
def RdI (w : World) (B : Nat) (A : Option Addr) (l : List Int) : Prop :=
  0 < l.length → ∃ b o, A = some ⟨b, o, none⟩ ∧ b < B ∧ ∀ j (h : j < l.length), w.cell? ⟨b, o + j, none⟩ = some (.int .i64 l[j])
set_option maxRecDepth 100000 in
theorem RdI.nil {w : World} {B : Nat} {A : Option Addr} : RdI w B A [] := fun h => absurd h (by simp)
set_option maxRecDepth 100000 in
theorem RdI.keep {w w' : World} {B : Nat} {A : Option Addr} {l : List Int} (h : RdI w B A l) (hk : ∀ p : Addr, p.block < B → w'.cell? p = w.cell? p) : RdI w' B A l := by
  intro hl
  obtain ⟨b, o, e, hb, hc⟩ := h hl
  exact ⟨b, o, e, hb, fun j hj => (hk _ (by exact hb)).trans (hc j hj)⟩
set_option maxRecDepth 100000 in
theorem RdI.more {w : World} {B B' : Nat} {A : Option Addr} {l : List Int} (h : RdI w B A l) (hB : B ≤ B') : RdI w B' A l := by
  intro hl
  obtain ⟨b, o, e, hb, hc⟩ := h hl
  exact ⟨b, o, e, by omega, hc⟩
set_option maxRecDepth 100000 in
theorem RdI.below {w w' : World} {B B' : Nat} {A : Option Addr} {l : List Int} (h : RdI w B A l) (hb : Below B' w w') (hB : B ≤ B') : RdI w' B A l :=
  h.keep fun p hp => hb.cell (p := p) (by omega)
set_option maxRecDepth 100000 in
theorem RdI.go {w w' : World} {A : Option Addr} {l : List Int} (h : RdI w w.heap.size A l) (hb : Below w.heap.size w w') : RdI w' w'.heap.size A l := (h.below hb (Nat.le_refl _)).more hb.size
set_option maxRecDepth 100000 in
theorem Rd.go {w w' : World} {A : Option Addr} {l : List UInt8} (h : Rd w w.heap.size A l) (hb : Below w.heap.size w w') : Rd w' w'.heap.size A l := (h.below hb (Nat.le_refl _)).more hb.size
set_option maxRecDepth 100000 in
theorem RdI.at_ {w : World} {B : Nat} {A : Option Addr} {l : List Int} (h : RdI w B A l) {k : Nat} (hk : k < l.length) :
    ∃ b o, A = some ⟨b, o, none⟩ ∧ b < B ∧ w.cell? ⟨b, o + k, none⟩ = some (.int .i64 l[k]) := by
  obtain ⟨b, o, e, hb, hc⟩ := h (by omega)
  exact ⟨b, o, e, hb, hc k hk⟩
def csI (l : List Int) : List Value := l.map fun b => Value.int .i64 b
set_option maxRecDepth 100000 in
theorem csI_length (l : List Int) : (csI l).length = l.length := by simp [csI]
set_option maxRecDepth 100000 in
theorem csI_append (a b : List Int) : csI (a ++ b) = csI a ++ csI b := by simp [csI]
set_option maxRecDepth 100000 in
theorem csI_get (l : List Int) (j : Nat) (h : j < l.length) : (csI l)[j]? = some (.int .i64 l[j]) := by simp [csI, h]
set_option maxRecDepth 100000 in
theorem csI_one (l : List Int) : ∀ u ∈ csI l, u.oneCell' = true := by
  intro u hu
  obtain ⟨_, _, rfl⟩ := List.mem_map.1 hu
  rfl
/-- v is the call's own slice of numbers (from block base on) -/
def OwI (w : World) (base : Nat) (v : Value) (l : List Int) : Prop := w.ownsRow base 3 1 v l.length (csI l)
set_option maxRecDepth 100000 in
theorem infoI : (Try.prog.info? 3).map (fun i => (i.zero, i.size, i.bytes)) = some (some (.int .i64 0), 1, 8) := by kernel_rfl
set_option maxRecDepth 100000 in
theorem OwI.nil {w : World} {base : Nat} : OwI w base (.slice none 0 0) [] := World.ownsRow_nil _ _ _ _
set_option maxRecDepth 100000 in
theorem OwI.alloc {w : World} {base : Nat} {v : Value} {l : List Int} (h : OwI w base v l) (o : Obj) : OwI (w.alloc o) base v l := World.ownsRow.alloc h o
set_option maxRecDepth 100000 in
theorem OwI.drew {w : World} {base : Nat} {v : Value} {l : List Int} (h : OwI w base v l) : OwI w.drew base v l := h
set_option maxRecDepth 100000 in
theorem OwI.made0 (w : World) {base : Nat} (hb : base ≤ w.heap.size) : OwI (w.alloc (.cells #[] 3)) base (.slice (some ⟨w.heap.size, 0, none⟩) 0 0) [] :=
  ⟨rfl, .inr ⟨w.heap.size, 0, #[], rfl, hb, heap_alloc_new w _, Nat.le_refl _, by simp [maxLen], rfl, rfl⟩⟩
set_option maxRecDepth 100000 in
theorem OwI.form {w : World} {base : Nat} {v : Value} {l : List Int} (h : OwI w base v l) : ∃ A c, v = .slice A l.length c ∧ l.length ≤ c ∧ c ≤ 9223372036854775807 ∧ RdI w w.heap.size A l := by
  rcases h.2 with ⟨rfl, h0⟩ | ⟨g, cap, cur, rfl, hb, hg, hn, hcap, hsz, htake⟩
  · obtain rfl : l = [] := List.eq_nil_of_length_eq_zero h0
    exact ⟨none, 0, rfl, by simp, by simp, RdI.nil⟩
  · refine ⟨some ⟨g, 0, none⟩, cap, rfl, hn, by simpa [maxLen] using hcap, fun _ => ⟨g, 0, rfl, (Array.getElem?_eq_some_iff.1 hg).1, fun j hj => ?_⟩⟩
    have := World.ownsRow.cells h (g := g) rfl j _ (csI_get l j hj)
    rwa [Addr.add_lit] at this
set_option maxRecDepth 100000 in
theorem OwI.below {w0 w w' : World} {base : Nat} {v : Value} {l : List Int} (h : OwI w base v l) (hb : Below base w0 w) (hg : w.grownBy w' v.ownBlock) (hB : base ≤ w.heap.size) : Below base w0 w' :=
  hb.grown hg hB (fun k hk => (World.ownsRow.lt h k hk).1)
set_option maxRecDepth 100000 in
theorem OwI.call {w w' : World} {base : Nat} {v : Value} {l : List Int} (h : OwI w base v l) (hb : Below w.heap.size w w') : OwI w' base v l := by
  refine ⟨h.1, ?_⟩
  rcases h.2 with h0 | ⟨g, cap, cur, e, hbg, hg, hn, hcap, hsz, htake⟩
  · exact .inl h0
  · exact .inr ⟨g, cap, cur, e, hbg, oldG hg hb (Nat.le_refl _), hn, hcap, hsz, htake⟩
set_option maxRecDepth 100000 in
theorem run_appI (ty : TypeId) (w : World) (base : Nat) (v : Value) (l news : List Int) (h : OwI w base v l) (A : Option Addr) (c B : Nat) (hr : RdI w B A news)
    (hlen : l.length + news.length ≤ 10000000) (hbase : base ≤ w.heap.size) :
    ∃ v' w', (Builtin.append_ #[34, 34] ty #[v, .slice A news.length c]).run Try.prog w = .ok v' w' ∧ OwI w' base v' (l ++ news) ∧ w.grownBy w' v.ownBlock := by
  obtain ⟨i0, hi, hz0, hz1, hz2⟩ := info_parts infoI
  cases A with
  | some ad =>
    have hnews : ∀ j u, (csI news)[j]? = some u → w.cell? (ad.add j) = some u := by
      by_cases h0 : 0 < news.length
      · obtain ⟨b, o, e, _, hc⟩ := hr h0
        cases e
        intro j u hu
        have hj : j < news.length := by
          have := (List.getElem?_eq_some_iff.1 hu).1
          simpa [csI] using this
        rw [csI_get news j hj] at hu
        rw [Addr.add_lit, hc j hj]
        exact hu
      · have e : news = [] := List.eq_nil_of_length_eq_zero (by omega)
        subst e
        intro j u hu
        simp [csI] at hu
    obtain ⟨v', w', h1, h2, h3, _⟩ := run_append_own (P := Try.prog) w base 34 ty 3 i0 (.int .i64 0) 1 8 Try.underlying34 hi hz0 hz1 hz2 rfl (by decide) v l.length (csI l) h ad news.length c (csI news) (by simp [csI]) hnews (csI_one news) (by unfold maxLen; omega) (by omega) hbase
    exact ⟨v', w', h1, by unfold OwI; rw [List.length_append, csI_append]; exact h2, h3⟩
  | none =>
    have e : news = [] := by
      apply List.eq_nil_of_length_eq_zero
      by_cases h0 : 0 < news.length
      · obtain ⟨b, o, e, _⟩ := hr h0; cases e
      · omega
    subst e
    refine ⟨v, w, ?_, by simpa using h, World.grownBy.refl w _⟩
    rcases h.2 with ⟨rfl, _⟩ | ⟨g, cap, cur, rfl, _, _, hnc, _⟩
    · simp [Builtin.append_, run_underlying Try.underlying34, sizeOf, typeInfo, hi, Builtin.lenOf, Builtin.firstCells]
    · simp [Builtin.append_, run_underlying Try.underlying34, sizeOf, typeInfo, hi, Builtin.lenOf, Builtin.firstCells, hnc, storeCells]
set_option maxRecDepth 100000 in
theorem wpList_appI {ops : Array Oper} {rest : List Oper} {o : Oper} {a : Act} {Q : Exit → Act → World → Prop} (w : World) (hw : Region.wanted o (yielded ops a.tmps) = true) (s x : Operand)
    (ho : o.op = .call { callee := .builtin .append, args := #[s, x], argTypes := #[34, 34] })
    (base : Nat) (v : Value) (l news : List Int) (hs : a.eval s = v) (h : OwI w base v l) (A : Option Addr) (m c B : Nat) (hx : a.eval x = .slice A m c) (hm : m = news.length)
    (hr : RdI w B A news) (hlen : l.length + news.length ≤ 10000000) (hbase : base ≤ w.heap.size)
    (hK : ∀ v' w', OwI w' base v' (l ++ news) → w.grownBy w' v.ownBlock → wpList Try.prog ops Q rest (a.put o.dst v') w') : wpList Try.prog ops Q (o :: rest) a w := by
  subst hm
  obtain ⟨v', w', hr, h2, h3⟩ := run_appI o.type w base v l news h A c B hr hlen hbase
  refine BigFrame.wpList_want hw fun _ hK' => ?_
  unfold Oper.wp execOp
  simp only [ho, resolve, invoke, builtin, Sem.run_bind, Sem.run_pure, Result.andThen_ok, List.map_toArray, List.map_cons, List.map_nil, hs, hx, hr]
  exact hK' _ _ (hK v' w' h2 h3)
set_option maxRecDepth 100000 in
/-- one number, just laid in a block of its own -/
theorem rdi_new1 (w : World) (n : Int) : RdI (w.alloc (.cells #[.int .i64 n] 3)) (w.heap.size + 1) (some ⟨w.heap.size, 0, none⟩) [n] := by
  have h2 := heap_alloc_new w (.cells #[.int .i64 n] 3)
  refine fun _ => ⟨w.heap.size, 0, rfl, by omega, fun j hj => ?_⟩
  obtain rfl : j = 0 := by simpa using hj
  exact cG1 h2
def I64s (l : List Int) : Prop := ∀ z ∈ l, -9223372036854775808 ≤ z ∧ z ≤ 9223372036854775807
set_option maxRecDepth 100000 in
/-- a slice value that reads as data: its numbers -/
theorem ints_in {H : Type} {enc : TypeId × Value → H} {W : World} {base fuel : Nat} {spare : Nat → Bool} {held : Bool} {a : Option Addr} {n c : Nat} {y : DataW H × List MemPlace}
    (hf : DataW.trod enc Try.prog W base spare held fuel 34 [.slice a n c] = some y) : ∃ l : List Int, n = l.length ∧ l.length ≤ c ∧ c ≤ 9223372036854775807 ∧ I64s l ∧ RdI W W.heap.size a l := by
  rcases open_ints Try.underlying34 Try.underlying3 (by kernel_rfl) hf with ⟨hcs, _⟩ | ⟨x, l, c', zs, hcs, _, hl, hm, hz, _, hcell, hwz⟩
  · simp at hcs
    obtain ⟨rfl, rfl, rfl⟩ := hcs
    exact ⟨[], rfl, by simp, by omega, fun z hz => absurd hz (by simp), RdI.nil⟩
  · simp at hcs
    obtain ⟨rfl, rfl, rfl⟩ := hcs
    have hzl : n ≤ zs.length := by
      rw [hz]
      split <;> omega
    refine ⟨zs.take n, by simp; omega, by simp; omega, by simpa [maxLen] using hm, fun z hz => i64_bd (hwz z (List.mem_of_mem_take hz)), fun h0 => ?_⟩
    have h0' : 0 < n := by simp at h0; omega
    obtain ⟨b, o, spot⟩ := x
    have hc0 := hcell 0 (by omega)
    have hspot : spot = none := by simpa [Addr.add] using World.cell?_spot hc0
    subst hspot
    refine ⟨b, o, rfl, World.block_lt_of_cell? W ⟨b, o, none⟩ (by simpa [Addr.add] using hc0), fun j hj => ?_⟩
    have hj' : j < n := by simp at hj; omega
    have hc := hcell j (by omega)
    rw [Addr.add_lit] at hc
    rw [hc]
    have hzj : j < zs.length := by omega
    have e : zs.getD j 0 = zs[j] := by simp [List.getD, hzj]
    rw [e]
    simp only [List.getElem_take]
end Go.Proofs.Ytdnfggjklblpnaa
/- A window of numbers in memory. -/

namespace Go.Proofs.Ytdnfggjklblpnaa
open Go.RowKit

def winC (w : Wn) : Array Value :=
  #[.int .i64 w.top, .int .u64 (w.b 0), .int .u64 (w.b 1), .int .u64 (w.b 2), .int .u64 (w.b 3), .int .u64 (w.b 4), .int .u64 (w.b 5), .int .u64 (w.b 6), .int .u64 (w.b 7),
    .int .u64 (w.b 8), .int .u64 (w.b 9), .int .u64 (w.b 10), .int .u64 (w.b 11), .int .u64 (w.b 12), .int .u64 (w.b 13), .int .u64 (w.b 14), .int .u64 (w.b 15)]
set_option maxRecDepth 100000 in
theorem winC_size (w : Wn) : (winC w).size = 17 := rfl
set_option maxRecDepth 100000 in
theorem winC_one (w : Wn) : (winC w).all (·.oneCell') = true := by simp [winC, Value.oneCell']
set_option maxRecDepth 100000 in
theorem lt16 {c : Nat} (h : c < 16) : c = 0 ∨ c = 1 ∨ c = 2 ∨ c = 3 ∨ c = 4 ∨ c = 5 ∨ c = 6 ∨ c = 7 ∨ c = 8 ∨ c = 9 ∨ c = 10 ∨ c = 11 ∨ c = 12 ∨ c = 13 ∨ c = 14 ∨ c = 15 := by omega
set_option maxRecDepth 100000 in
theorem winC_top (w : Wn) : (winC w)[0]? = some (.int .i64 w.top) := rfl
set_option maxRecDepth 100000 in
theorem winC_b (w : Wn) {c : Nat} (hc : c < 16) : (winC w)[1 + c]? = some (.int .u64 (w.b c)) := by
  rcases lt16 hc with rfl | rfl | rfl | rfl | rfl | rfl | rfl | rfl | rfl | rfl | rfl | rfl | rfl | rfl | rfl | rfl <;> rfl
def updN (f : Nat → Nat) (c : Nat) (v : Nat) : Nat → Nat := fun i => if i = c then v else f i
set_option maxRecDepth 100000 in
theorem updN_same (f : Nat → Nat) (c v : Nat) : updN f c v c = v := if_pos rfl
set_option maxRecDepth 100000 in
theorem updN_other (f : Nat → Nat) {c i : Nat} (v : Nat) (h : i ≠ c) : updN f c v i = f i := if_neg h
set_option maxRecDepth 100000 in
theorem winC_setTop (w : Wn) (t : Int) : (winC w).setIfInBounds 0 (.int .i64 t) = winC ⟨t, w.b⟩ := rfl
set_option maxRecDepth 100000 in
theorem winC_setB (w : Wn) {c : Nat} (hc : c < 16) (n : Nat) : (winC w).setIfInBounds (1 + c) (.int .u64 n) = winC ⟨w.top, updN w.b c n⟩ := by
  rcases lt16 hc with rfl | rfl | rfl | rfl | rfl | rfl | rfl | rfl | rfl | rfl | rfl | rfl | rfl | rfl | rfl | rfl <;> rfl
set_option maxRecDepth 100000 in
theorem winC_congr {a b : Wn} (h : SameW a b) : winC a = winC b := by
  unfold winC
  rw [h.1, h.2 0 (by omega), h.2 1 (by omega), h.2 2 (by omega), h.2 3 (by omega), h.2 4 (by omega), h.2 5 (by omega), h.2 6 (by omega), h.2 7 (by omega), h.2 8 (by omega), h.2 9 (by omega), h.2 10 (by omega), h.2 11 (by omega), h.2 12 (by omega), h.2 13 (by omega), h.2 14 (by omega), h.2 15 (by omega)]
/-- the box at g holds a window -/
def BoxW (w : World) (g : Nat) (x : Wn) : Prop := w.heap[g]? = some (.cells (winC x) 25 (0, 0))
set_option maxRecDepth 100000 in
theorem BoxW.cell {w : World} {g : Nat} {x : Wn} (k : BoxW w g x) {j : Nat} {v : Value} (hv : (winC x)[j]? = some v) : w.cell? ⟨g, j, none⟩ = some v := (cell_of_row _ _ _ _ _ _ k).trans hv
set_option maxRecDepth 100000 in
theorem BoxW.thaw {w : World} {g : Nat} {x : Wn} (k : BoxW w g x) (j : Nat) : w.frozen? ⟨g, j, none⟩ = false := frozen_of_row w g j _ _ k
set_option maxRecDepth 100000 in
theorem BoxW.old {w w' : World} {B g : Nat} {x : Wn} (k : BoxW w g x) (hb : Below B w w') (hB : w.heap.size ≤ B) : BoxW w' g x := oldG k hb hB
set_option maxRecDepth 100000 in
theorem BoxW.set {w : World} {g : Nat} {x x' : Wn} (k : BoxW w g x) {j : Nat} {v : Value} (e : (winC x).setIfInBounds j v = winC x') : BoxW (w.setCell ⟨g, j, none⟩ v) g x' := by
  have h1 := heap_setCell_same w g j _ _ v k
  rw [e] at h1
  exact h1
set_option maxRecDepth 100000 in
theorem boxW_new (w : World) (x : Wn) : BoxW (w.alloc (.cells (winC x) 25)) w.heap.size x := heap_alloc_new w _
set_option maxRecDepth 100000 in
theorem boxW1 (W : World) (x : Wn) : ∃ V C, C = winC x ∧ V = W.alloc (.cells C 25) ∧ Below W.heap.size W V ∧ BoxW V W.heap.size x := ⟨_, _, rfl, rfl, (Below.refl W.heap.size W).alloc (Nat.le_refl _) _, heap_alloc_new W _⟩
def wn0 : Wn := ⟨0, fun _ => 0⟩
set_option maxRecDepth 100000 in
theorem run_loadW {w : World} {g : Nat} {x : Wn} (k : BoxW w g x) : (Instr.loadAt 25 (.pointer (some ⟨g, 0, none⟩))).run Try.prog w = .ok (.agg (winC x)) w := by
  simp only [Instr.loadAt, Instr.sureAddr, Sem.run_bind, Sem.run_pure, Result.andThen_ok, run_loadVar_row w g 25 25 (winC x) (0, 0) _ k Try.underlying25 rfl (by rw [winC_size]; kernel_rfl)]
set_option maxRecDepth 100000 in
theorem loadW {ops : Array Oper} {rest : List Oper} {o : Oper} {a : Act} {Q : Exit → Act → World → Prop} (W : World) (p : Operand) (g : Nat) (x : Wn)
    (hg : BoxW W g x) (hw : Region.wanted o (yielded ops a.tmps) = true) (ho : o.op = .load 25 p) (hx : a.eval p = .pointer (some ⟨g, 0, none⟩))
    (hK : wpList Try.prog ops Q rest (a.put o.dst (.agg (winC x))) W) : wpList Try.prog ops Q (o :: rest) a W :=
  BigFrame.wpList_want hw fun _ hK' => wp_load_row 25 p ho g hx 25 (winC x) (0, 0) _ hg Try.underlying25 rfl (by rw [winC_size]; kernel_rfl) (hK' _ _ hK)
set_option maxRecDepth 100000 in
theorem storeW {ops : Array Oper} {rest : List Oper} {o : Oper} {a : Act} {Q : Exit → Act → World → Prop} (W : World) (p y : Operand) (g : Nat) (x : Wn) (old : Array Value)
    (hg : W.heap[g]? = some (.cells old 25 (0, 0))) (hold : old.size = 17) (hw : Region.wanted o (yielded ops a.tmps) = true) (ho : o.op = .store 25 p y) (hx : a.eval p = .pointer (some ⟨g, 0, none⟩)) (hy : a.eval y = .agg (winC x))
    (hK : wpList Try.prog ops Q rest (a.put o.dst undef) (W.setRow g (winC x))) : wpList Try.prog ops Q (o :: rest) a W :=
  BigFrame.wpList_want hw fun _ hK' => wp_store_row 25 p y ho g (winC x) hx hy 25 old hg (by rw [winC_size]; kernel_rfl) (by rw [winC_size]; exact hold) (winC_one x) (hK' _ _ hK)
set_option maxRecDepth 100000 in
theorem retW {fn : Func} {p q : Tmp} (h : fn.results = #[.cell p 25, .tmp q]) (tmps : Array Value) (W : World) (g : Nat) (x : Wn) (v : Value) (hp : tmps.getD p undef = .pointer (some ⟨g, 0, none⟩)) (hq : tmps.getD q undef = v) (hg : BoxW W g x) :
    (results fn tmps).run Try.prog W = .ok (.tuple #[.agg (winC x), v]) W := by
  have hp' : tmps[p]?.getD undef = .pointer (some ⟨g, 0, none⟩) := by simpa using hp
  have hq' : tmps[q]?.getD undef = v := by simpa using hq
  simp [results, h, hp', hq', asAddr, run_loadVar_row W g 25 25 (winC x) (0, 0) _ hg Try.underlying25 rfl (by rw [winC_size]; kernel_rfl)]

/-! ### windows are compared -/
instance (a b : Wn) : Decidable (SameW a b) := decidable_of_iff (a.top = b.top ∧ ∀ j : Fin 16, a.b j.1 = b.b j.1) ⟨fun h => ⟨h.1, fun j hj => h.2 ⟨j, hj⟩⟩, fun h => ⟨h.1, fun j => h.2 j.1 j.2⟩⟩
set_option maxRecDepth 100000 in
theorem infoU : ∃ i, Try.prog.info? 22 = some i := ⟨_, rfl⟩
set_option maxRecDepth 100000 in
theorem cellsU : Try.prog.cellsOf 22 = 1 := by kernel_rfl
set_option maxRecDepth 100000 in
theorem plainU : Try.prog.plainKey 22 = true := by kernel_rfl
def bitsC (w : Wn) : Array Value :=
  #[.int .u64 (w.b 0), .int .u64 (w.b 1), .int .u64 (w.b 2), .int .u64 (w.b 3), .int .u64 (w.b 4), .int .u64 (w.b 5), .int .u64 (w.b 6), .int .u64 (w.b 7),
    .int .u64 (w.b 8), .int .u64 (w.b 9), .int .u64 (w.b 10), .int .u64 (w.b 11), .int .u64 (w.b 12), .int .u64 (w.b 13), .int .u64 (w.b 14), .int .u64 (w.b 15)]
set_option maxRecDepth 100000 in
theorem bits_ext (w : Wn) : (winC w).extract 1 17 = bitsC w := by
  rw [← Array.toList_inj]
  simp only [Array.toList_extract, List.extract]
  rfl
set_option maxRecDepth 100000 in
theorem bitsC_get (w : Wn) {c : Nat} (hc : c < 16) : (bitsC w)[c]? = some (.int .u64 (w.b c)) := by
  rcases lt16 hc with rfl | rfl | rfl | rfl | rfl | rfl | rfl | rfl | rfl | rfl | rfl | rfl | rfl | rfl | rfl | rfl <;> rfl
set_option maxRecDepth 100000 in
theorem infoB : ∃ i, Try.prog.info? 23 = some i := ⟨_, rfl⟩
set_option maxRecDepth 100000 in
theorem cellsB : Try.prog.cellsOf 23 = 16 := by kernel_rfl
set_option maxRecDepth 100000 in
theorem run_isAggB (W : World) : (isAgg 23).run Try.prog W = .ok true W := by
  simp [isAgg, run_underlying Try.underlying23]
set_option maxRecDepth 100000 in
theorem part_bits (a : Wn) (W : World) : (part 23 (winC a) 1).run Try.prog W = .ok (.agg (bitsC a)) W := by
  obtain ⟨i, hi⟩ := infoB
  unfold part
  simp only [Sem.run_bind, run_isAggB, Result.andThen_ok, if_true, run_sizeOf W hi, cellsB, Sem.run_pure, Sem.run_ite]
  rw [show 1 + 16 = 17 from rfl, bits_ext]
set_option maxRecDepth 100000 in
theorem eqItems_w (d : Nat) (W : World) (a b : Wn) : ∀ l : List Nat, (∀ j ∈ l, j < 16) → (Op.eqItems (d + 1) 22 (Try.prog.cellsOf 22) (bitsC a) (bitsC b) l).run Try.prog W = .ok (l.all fun j => decide (a.b j = b.b j)) W
  | [], _ => by simp [Op.eqItems]
  | j :: l, h => by
    have hj := h j (by simp)
    have h1 := run_part_plain W (P := Try.prog) plainU (xs := bitsC a) (off := j) (bitsC_get a hj)
    have h2 := run_part_plain W (P := Try.prog) plainU (xs := bitsC b) (off := j) (bitsC_get b hj)
    have h3 := run_equalIn_int W d 22 .u64 .u64 ((a.b j : Nat) : Int) ((b.b j : Nat) : Int) (P := Try.prog) Try.underlying22
    have ih := eqItems_w d W a b l (fun k hk => h k (by simp [hk]))
    have e : (((a.b j : Nat) : Int) == ((b.b j : Nat) : Int)) = decide (a.b j = b.b j) := by
      rw [Bool.eq_iff_iff, beq_iff_eq, decide_eq_true_iff]; omega
    rw [e] at h3
    rw [cellsU] at ih ⊢
    simp only [Op.eqItems, Nat.mul_one, Sem.run_bind, h1, h2, h3, Result.andThen_ok]
    by_cases hd : a.b j = b.b j
    · simp [hd, ih]
    · simp [hd]
set_option maxRecDepth 100000 in
theorem stoodW : Try.prog.stoodInHeld 25 = false := by kernel_rfl
set_option maxRecDepth 100000 in
theorem underW : Try.prog.underlying 25 = some (.struct (Try.prog.fieldsOf 25)) := by
  unfold Program.fieldsOf
  rw [Try.underlying25]
set_option maxRecDepth 100000 in
theorem plainI : Try.prog.plainKey 3 = true := by kernel_rfl
set_option maxRecDepth 100000 in
theorem range16 (p : Nat → Bool) : ((List.range 16).all p) = true ↔ ∀ j, j < 16 → p j = true := by
  rw [List.all_eq_true]
  exact ⟨fun h j hj => h j (List.mem_range.2 hj), fun h j hj => h j (List.mem_range.1 hj)⟩
set_option maxRecDepth 100000 in
set_option maxHeartbeats 1000000 in
theorem run_equalW (W : World) (a b : Wn) : (Op.equalIn 10000 25 (.agg (winC a)) (.agg (winC b))).run Try.prog W = .ok (decide (SameW a b)) W := by
  obtain ⟨i, hi⟩ := infoU
  have h1 := run_equalIn_agg W 9999 25 (winC a) (winC b) (P := Try.prog) underW stoodW
  rw [h1]
  have h2 := run_part_plain W (P := Try.prog) plainI (xs := winC a) (off := 0) (winC_top a)
  have h3 := run_part_plain W (P := Try.prog) plainI (xs := winC b) (off := 0) (winC_top b)
  have h4 := run_equalIn_int W 9998 3 .i64 .i64 a.top b.top (P := Try.prog) Try.underlying3
  have h5 := run_equalIn_array W 9998 (bitsC a) (bitsC b) Try.underlying23 hi
  have h6 := eqItems_w 9997 W a b (List.range 16) (fun j hj => List.mem_range.1 hj)
  rw [h6] at h5
  have hF : (Try.prog.fieldsOf 25).toList.map (fun f => (f.name, f.type, f.offset)) = [("Top", 3, 0), ("Bits", 23, 1)] := by kernel_rfl
  generalize (Try.prog.fieldsOf 25).toList = fs at hF ⊢
  obtain ⟨f, g, rfl⟩ : ∃ f g, fs = [f, g] := by
    have hl := congrArg List.length hF
    rw [List.length_map] at hl
    obtain ⟨f, fs, rfl⟩ := List.exists_cons_of_length_pos (show 0 < fs.length by rw [hl]; decide)
    obtain ⟨g, fs, rfl⟩ := List.exists_cons_of_length_pos (show 0 < fs.length by have h9 : fs.length + 1 = 2 := hl; omega)
    obtain rfl : fs = [] := List.eq_nil_of_length_eq_zero (by have h9 : fs.length + 1 + 1 = 2 := hl; omega)
    exact ⟨f, g, rfl⟩
  · simp only [List.map_cons, List.map_nil, List.cons.injEq, Prod.mk.injEq, and_true] at hF
    obtain ⟨⟨n1, t1, o1⟩, n2, t2, o2⟩ := hF
    simp only [Op.eqFields, n1, n2, t1, t2, o1, o2, ne_eq, String.reduceEq, not_false_eq_true, if_true, Sem.run_bind, h2, h3, h4, Result.andThen_ok]
    by_cases e : a.top = b.top
    · have e1 : (a.top == b.top) = true := by simp [e]
      have e2 : ((List.range 16).all fun j => decide (a.b j = b.b j)) = decide (SameW a b) := by
        rw [Bool.eq_iff_iff, range16, decide_eq_true_iff]
        exact ⟨fun h => ⟨e, fun j hj => by simpa using h j hj⟩, fun h j hj => by simpa using h.2 j hj⟩
      rw [e1]
      simp only [Bool.not_true, Bool.false_eq_true, if_false, Sem.run_bind, part_bits, Result.andThen_ok, h5, e2, Sem.run_ite, Sem.run_pure]
      cases decide (SameW a b) <;> rfl
    · have e1 : (a.top == b.top) = false := by simp [e]
      rw [e1, decide_eq_false (fun h : SameW a b => e h.1)]
      simp
set_option maxRecDepth 100000 in
theorem run_eqlW (W : World) (a b : Wn) : (binOp .eql 25 (.agg (winC a)) (.agg (winC b))).run Try.prog W = .ok (.bool (decide (SameW a b))) W := by
  rw [run_eql_struct, run_equalW]
  rfl
set_option maxRecDepth 100000 in
theorem run_neqW (W : World) (a b : Wn) : (binOp .neq 25 (.agg (winC a)) (.agg (winC b))).run Try.prog W = .ok (.bool (!decide (SameW a b))) W := by
  rw [run_neq_struct, run_equalW]
  rfl
end Go.Proofs.Ytdnfggjklblpnaa
