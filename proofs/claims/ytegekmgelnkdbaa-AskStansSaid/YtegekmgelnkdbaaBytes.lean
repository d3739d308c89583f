
/- Bytes in memory: a slice value that reads as a list of bytes; what the walk asks of it. -/
import Derived.Test.YtegekmgelnkdbaaRows
import Derived.WalkKit
import Derived.WalkLawsBesides
import Derived.WalkSpells
import Derived.Lib.Hide
import Derived.Lib.OthersKept
import Derived.WalkSmall
import Derived.Deep.OwnRows
import Derived.Deep.AppendLies
import Derived.Laws.IdiomStrings
namespace Go.Proofs.Ytegekmgelnkdbaa
open Go.RowKit

set_option maxRecDepth 100000 in
theorem ret_int {k : IntKind} {a b : Int} (h : a = b) : Ending.returned (.int k a) = .returned (.int k b) := by rw [h]

/-- the cells of a list of bytes -/
def cs (l : List UInt8) : List Value := l.map fun b => Value.int .u8 (b.toNat : Int)
set_option maxRecDepth 100000 in
theorem cs_length (l : List UInt8) : (cs l).length = l.length := by simp [cs]
set_option maxRecDepth 100000 in
theorem cs_append (a b : List UInt8) : cs (a ++ b) = cs a ++ cs b := by simp [cs]
set_option maxRecDepth 100000 in
theorem cs_get (l : List UInt8) (j : Nat) (h : j < l.length) : (cs l)[j]? = some (.int .u8 (l[j].toNat : Int)) := by simp [cs, h]
set_option maxRecDepth 100000 in
theorem cs_one (l : List UInt8) : ∀ u ∈ cs l, u.oneCell' = true := by
  intro u hu
  obtain ⟨_, _, rfl⟩ := List.mem_map.1 hu
  rfl

/-- the slice at the address A reads as the bytes l, below block B -/
def Rd (w : World) (B : Nat) (A : Option Addr) (l : List UInt8) : Prop :=
  0 < l.length → ∃ b o, A = some ⟨b, o, none⟩ ∧ b < B ∧ ∀ j (h : j < l.length), w.cell? ⟨b, o + j, none⟩ = some (.int .u8 (l[j].toNat : Int))

set_option maxRecDepth 100000 in
theorem Rd.keep {w w' : World} {B : Nat} {A : Option Addr} {l : List UInt8} (h : Rd w B A l) (hk : ∀ p : Addr, p.block < B → w'.cell? p = w.cell? p) : Rd w' B A l := by
  intro hl
  obtain ⟨b, o, e, hb, hc⟩ := h hl
  exact ⟨b, o, e, hb, fun j hj => (hk _ (by exact hb)).trans (hc j hj)⟩
set_option maxRecDepth 100000 in
theorem Rd.more {w : World} {B B' : Nat} {A : Option Addr} {l : List UInt8} (h : Rd w B A l) (hB : B ≤ B') : Rd w B' A l := by
  intro hl
  obtain ⟨b, o, e, hb, hc⟩ := h hl
  exact ⟨b, o, e, by omega, hc⟩
set_option maxRecDepth 100000 in
theorem Rd.below {w w' : World} {B B' : Nat} {A : Option Addr} {l : List UInt8} (h : Rd w B A l) (hb : Below B' w w') (hB : B ≤ B') : Rd w' B A l :=
  h.keep fun p hp => hb.cell (p := p) (by omega)
set_option maxRecDepth 100000 in
theorem Rd.nil {w : World} {B : Nat} {A : Option Addr} : Rd w B A [] := fun h => absurd h (by simp)
set_option maxRecDepth 100000 in
theorem Rd.at_ {w : World} {B : Nat} {A : Option Addr} {l : List UInt8} (h : Rd w B A l) {k : Nat} (hk : k < l.length) :
    ∃ b o, A = some ⟨b, o, none⟩ ∧ b < B ∧ w.cell? ⟨b, o + k, none⟩ = some (.int .u8 (l[k].toNat : Int)) := by
  obtain ⟨b, o, e, hb, hc⟩ := h (by omega)
  exact ⟨b, o, e, hb, hc k hk⟩
set_option maxRecDepth 100000 in
/-- a cut -/
theorem Rd.cut {w : World} {B : Nat} {A : Option Addr} {l : List UInt8} (h : Rd w B A l) (i n c : Nat) (hn : i + n ≤ l.length) (hc : l.length ≤ c) :
    Rd w B (if c = i then A else A.map (·.add (i * 1))) ((l.drop i).take n) := by
  intro hl
  have hl' : 0 < min n (l.length - i) := by simpa using hl
  obtain ⟨b, o, rfl, hb, hcell⟩ := h (by omega)
  rw [if_neg (by omega)]
  refine ⟨b, o + i, by simp [Addr.add_lit], hb, fun j hj => ?_⟩
  have hj' : j < n := by have : j < min n (l.length - i) := by simpa using hj
                         omega
  rw [Nat.add_assoc, hcell (i + j) (by omega)]
  simp

/-- the slice value v reads as l -/
def Sl (w : World) (v : Value) (l : List UInt8) : Prop := ∃ A c, v = .slice A l.length c ∧ l.length ≤ c ∧ c ≤ 9223372036854775807 ∧ Rd w w.heap.size A l

set_option maxRecDepth 100000 in
theorem Sl.below {w w' : World} {v : Value} {l : List UInt8} (h : Sl w v l) (hb : Below w.heap.size w w') : Sl w' v l := by
  obtain ⟨A, c, rfl, hc, hc2, hr⟩ := h
  exact ⟨A, c, rfl, hc, hc2, (hr.below hb (Nat.le_refl _)).more hb.size⟩
set_option maxRecDepth 100000 in
theorem Sl.nil {w : World} : Sl w (.slice none 0 0) [] := ⟨none, 0, rfl, by simp, by simp, Rd.nil⟩
set_option maxRecDepth 100000 in
theorem Sl.own {w : World} {base : Nat} {v : Value} {l : List UInt8} {e : TypeId} (h : w.ownsRow base e 1 v l.length (cs l)) : Sl w v l := by
  rcases h.2 with ⟨rfl, h0⟩ | ⟨g, cap, cur, rfl, hb, hg, hn, hcap, hsz, htake⟩
  · obtain rfl : l = [] := List.eq_nil_of_length_eq_zero h0
    exact Sl.nil
  · refine ⟨some ⟨g, 0, none⟩, cap, rfl, hn, by simpa [maxLen] using hcap, fun _ => ⟨g, 0, rfl, (Array.getElem?_eq_some_iff.1 hg).1, fun j hj => ?_⟩⟩
    have := h.cells (g := g) rfl j _ (cs_get l j hj)
    rwa [Addr.add_lit] at this
set_option maxRecDepth 100000 in
theorem Sl.row {w : World} {b n : Nat} {t : TypeId} {f : Nat → Value} {l : List UInt8} (h : w.rowIs b t n f) (hn : l.length = n) (hm : n ≤ 9223372036854775807) (hf : ∀ j (hj : j < l.length), f j = .int .u8 (l[j].toNat : Int)) :
    Sl w (.slice (some ⟨b, 0, none⟩) n n) l := by
  subst hn
  refine ⟨_, _, rfl, Nat.le_refl _, hm, fun _ => ⟨b, 0, rfl, h.lt, fun j hj => ?_⟩⟩
  rw [Nat.zero_add, h.cell hj, hf j hj]

/-- a call's answer: a slice that reads as l, and something more -/
def Ans (W' : World) (e : Ending) (l : List UInt8) (n : Nat) (x : Value) : Prop := ∃ A c, e = .returned (.tuple #[.slice A n c, x]) ∧ n ≤ c ∧ c ≤ 9223372036854775807 ∧ Rd W' W'.heap.size A l
set_option maxRecDepth 100000 in
theorem Ans.of {W' : World} {e : Ending} {l : List UInt8} {x : Value} (n : Nat) (h : ∃ v, e = .returned (.tuple #[v, x]) ∧ Sl W' v l) (hn : l.length = n) : Ans W' e l n x := by
  obtain ⟨v, rfl, A, c, rfl, h1, h2, h3⟩ := h
  subst hn
  exact ⟨A, c, rfl, h1, h2, h3⟩

set_option maxRecDepth 100000 in
/-- 'string(b)' -/
theorem run_str {P : Program} {w : World} {B : Nat} {A : Option Addr} {l : List UInt8} (h : Rd w B A l) (c : Nat) (src dst e : TypeId) (hs : P.underlying src = some (.slice e)) (he : P.underlying e = some (.int .u8)) (hd : P.underlying dst = some .string) :
    (convert src dst (.slice A l.length c)).run P w = .ok (.string ⟨l.toArray⟩) w := by
  by_cases hl : 0 < l.length
  · obtain ⟨b, o, rfl, hb, hc⟩ := h hl
    exact run_convert_bytes_back w src dst e ⟨b, o, none⟩ c l hs he hd (fun j hj => by rw [Addr.add_lit]; exact hc j hj)
  · obtain rfl : l = [] := List.eq_nil_of_length_eq_zero (by omega)
    cases A with
    | none => exact run_convert_bytes_nil w src e hs he 0 c dst hd
    | some a => exact run_convert_bytes_back w src dst e a c [] hs he hd (fun j hj => absurd hj (by simp))

/-! ### appending bytes to a slice of the call's own -/
/-- v is the call's own slice (from block base on), and reads as l -/
def Ow (w : World) (base : Nat) (v : Value) (l : List UInt8) : Prop := w.ownsRow base 5 1 v l.length (cs l)
set_option maxRecDepth 100000 in
theorem info5 : (Try.prog.info? 5).map (fun i => (i.zero, i.size, i.bytes)) = some (some (.int .u8 0), 1, 1) := by kernel_rfl
set_option maxRecDepth 100000 in
theorem Ow.nil {w : World} {base : Nat} : Ow w base (.slice none 0 0) [] := World.ownsRow_nil _ _ _ _
set_option maxRecDepth 100000 in
theorem Ow.sl {w : World} {base : Nat} {v : Value} {l : List UInt8} (h : Ow w base v l) : Sl w v l := Sl.own h
set_option maxRecDepth 100000 in
theorem Ow.alloc {w : World} {base : Nat} {v : Value} {l : List UInt8} (h : Ow w base v l) (o : Obj) : Ow (w.alloc o) base v l := World.ownsRow.alloc h o
set_option maxRecDepth 100000 in
theorem Ow.drew {w : World} {base : Nat} {v : Value} {l : List UInt8} (h : Ow w base v l) : Ow w.drew base v l := h

set_option maxRecDepth 100000 in
theorem run_app (ty : TypeId) (w : World) (base : Nat) (v : Value) (l news : List UInt8) (h : Ow w base v l) (ad : Addr) (c : Nat)
    (hnews : ∀ j u, (cs news)[j]? = some u → w.cell? (ad.add j) = some u) (hlen : l.length + news.length ≤ 100000000) (hbase : base ≤ w.heap.size) :
    ∃ v' w', (Builtin.append_ #[22, 22] ty #[v, .slice (some ad) news.length c]).run Try.prog w = .ok v' w' ∧ Ow w' base v' (l ++ news) ∧ w.grownBy w' v.ownBlock := by
  obtain ⟨i0, hi, hz0, hz1, hz2⟩ := info_parts info5
  obtain ⟨v', w', h1, h2, h3, _⟩ := run_append_own (P := Try.prog) w base 22 ty 5 i0 (.int .u8 0) 1 1 Try.underlying22 hi hz0 hz1 hz2 rfl (by decide) v l.length (cs l) h ad news.length c (cs news) (by simp [cs]) hnews (cs_one news) (by unfold maxLen; omega) (by omega) hbase
  exact ⟨v', w', h1, by unfold Ow; rw [List.length_append, cs_append]; exact h2, h3⟩

set_option maxRecDepth 100000 in
theorem wp_app {o : Oper} {a : Act} {K : Act → World → Prop} {Q : Exit → Act → World → Prop} (w : World) (s x : Operand)
    (ho : o.op = .call { callee := .builtin .append, args := #[s, x], argTypes := #[22, 22] })
    (base : Nat) (v : Value) (l news : List UInt8) (hs : a.eval s = v) (h : Ow w base v l) (ad : Addr) (m c : Nat) (hx : a.eval x = .slice (some ad) m c) (hm : m = news.length)
    (hnews : ∀ j u, (cs news)[j]? = some u → w.cell? (ad.add j) = some u) (hlen : l.length + news.length ≤ 100000000) (hbase : base ≤ w.heap.size)
    (hK : ∀ v' w', Ow w' base v' (l ++ news) → w.grownBy w' v.ownBlock → K (a.put o.dst v') w') : o.wp Try.prog a w K Q := by
  subst hm
  obtain ⟨v', w', hr, h2, h3⟩ := run_app o.type w base v l news h ad c hnews hlen hbase
  unfold Oper.wp execOp
  simp only [ho, resolve, invoke, builtin, Sem.run_bind, Sem.run_pure, Result.andThen_ok, List.map_toArray, List.map_cons, List.map_nil, hs, hx, hr]
  exact hK v' w' h2 h3

set_option maxRecDepth 100000 in
theorem wpList_app {ops : Array Oper} {rest : List Oper} {o : Oper} {a : Act} {Q : Exit → Act → World → Prop} (hgd : o.guard = none) (w : World) (s x : Operand)
    (ho : o.op = .call { callee := .builtin .append, args := #[s, x], argTypes := #[22, 22] })
    (base : Nat) (v : Value) (l news : List UInt8) (hs : a.eval s = v) (h : Ow w base v l) (ad : Addr) (m c : Nat) (hx : a.eval x = .slice (some ad) m c) (hm : m = news.length)
    (hnews : ∀ j u, (cs news)[j]? = some u → w.cell? (ad.add j) = some u) (hlen : l.length + news.length ≤ 100000000) (hbase : base ≤ w.heap.size)
    (hK : ∀ v' w', Ow w' base v' (l ++ news) → w.grownBy w' v.ownBlock → wpList Try.prog ops Q rest (a.put o.dst v') w') : wpList Try.prog ops Q (o :: rest) a w :=
  wpList_plain hgd fun _ hK' => wp_app w s x ho base v l news hs h ad m c hx hm hnews hlen hbase fun v' w' h2 h3 => hK' _ _ (hK v' w' h2 h3)

set_option maxRecDepth 100000 in
theorem step_app {ops : Array Oper} {o : Oper} {a : Act} {K : Act → World → Prop} {Q : Exit → Act → World → Prop} {E : Prop} (hgd : o.guard = none) (w : World) (s x : Operand)
    (ho : o.op = .call { callee := .builtin .append, args := #[s, x], argTypes := #[22, 22] })
    (base : Nat) (v : Value) (l news : List UInt8) (hs : a.eval s = v) (h : Ow w base v l) (ad : Addr) (m c : Nat) (hx : a.eval x = .slice (some ad) m c) (hm : m = news.length)
    (hnews : ∀ j u, (cs news)[j]? = some u → w.cell? (ad.add j) = some u) (hlen : l.length + news.length ≤ 100000000) (hbase : base ≤ w.heap.size)
    (hK : ∀ v' w', Ow w' base v' (l ++ news) → w.grownBy w' v.ownBlock → K (a.put o.dst v') w') :
    if Region.wanted o (yielded ops a.tmps) = true then Oper.wp Try.prog o a w K Q else E := by
  have hw : Region.wanted o (yielded ops a.tmps) = true := by simp [Region.wanted, hgd]
  rw [if_pos hw]
  exact wp_app w s x ho base v l news hs h ad m c hx hm hnews hlen hbase hK

set_option maxRecDepth 100000 in
theorem le_alloc {w : World} {n : Nat} (h : n ≤ w.heap.size) (o : Obj) : n ≤ (w.alloc o).heap.size := by rw [World.size_alloc]; omega
set_option maxRecDepth 100000 in
/-- one byte, just laid in a block of its own -/
theorem news1 (w : World) (n : Int) (h0 : 0 ≤ n) (h1 : n < 256) : ∀ j u, (cs [UInt8.ofNat n.toNat])[j]? = some u → (w.alloc (.cells #[.int .u8 n] 5)).cell? ((⟨w.heap.size, 0, none⟩ : Addr).add j) = some u := by
  intro j u hu
  have e : cs [UInt8.ofNat n.toNat] = [.int .u8 n] := by
    simp only [cs, List.map_cons, List.map_nil, UInt8.toNat_ofNat']
    congr 2
    omega
  rw [e] at hu
  exact cell_one_new _ _ _ j u hu
set_option maxRecDepth 100000 in
theorem news2 (w : World) (a b : UInt8) : ∀ j u, (cs [a, b])[j]? = some u → (w.alloc (.cells #[.int .u8 (a.toNat : Int), .int .u8 (b.toNat : Int)] 5)).cell? ((⟨w.heap.size, 0, none⟩ : Addr).add j) = some u :=
  cell_two_new _ _ _ _
set_option maxRecDepth 100000 in
/-- what 'grownBy' does to 'Below' where the row is the call's own -/
theorem Ow.below {w0 w w' : World} {base : Nat} {v : Value} {l : List UInt8} (h : Ow w base v l) (hb : Below base w0 w) (hg : w.grownBy w' v.ownBlock) (hB : base ≤ w.heap.size) : Below base w0 w' :=
  hb.grown hg hB (fun k hk => (World.ownsRow.lt h k hk).1)

/-! ### appending a slice that reads as bytes, nil and empty ones too; under a guard too -/
set_option maxRecDepth 100000 in
theorem run_appS (ty : TypeId) (w : World) (base : Nat) (v : Value) (l news : List UInt8) (h : Ow w base v l) (A : Option Addr) (c B : Nat) (hr : Rd w B A news)
    (hlen : l.length + news.length ≤ 100000000) (hbase : base ≤ w.heap.size) :
    ∃ v' w', (Builtin.append_ #[22, 22] ty #[v, .slice A news.length c]).run Try.prog w = .ok v' w' ∧ Ow w' base v' (l ++ news) ∧ w.grownBy w' v.ownBlock := by
  cases A with
  | some ad =>
    refine run_app ty w base v l news h ad c ?_ hlen hbase
    by_cases h0 : 0 < news.length
    · obtain ⟨b, o, e, _, hc⟩ := hr h0
      cases e
      intro j u hu
      have hj : j < news.length := by
        have := (List.getElem?_eq_some_iff.1 hu).1
        simpa [cs] using this
      rw [cs_get news j hj] at hu
      rw [Addr.add_lit, hc j hj]
      exact hu
    · have e : news = [] := List.eq_nil_of_length_eq_zero (by omega)
      subst e
      intro j u hu
      simp [cs] at hu
  | none =>
    have e : news = [] := by
      apply List.eq_nil_of_length_eq_zero
      by_cases h0 : 0 < news.length
      · obtain ⟨b, o, e, _⟩ := hr h0; cases e
      · omega
    subst e
    obtain ⟨i0, hi, hz0, hz1, hz2⟩ := info_parts info5
    refine ⟨v, w, ?_, by simpa using h, World.grownBy.refl w _⟩
    rcases h.2 with ⟨rfl, _⟩ | ⟨g, cap, cur, rfl, _, _, hnc, _⟩
    · simp [Builtin.append_, run_underlying Try.underlying22, sizeOf, typeInfo, hi, Builtin.lenOf, Builtin.firstCells]
    · simp [Builtin.append_, run_underlying Try.underlying22, sizeOf, typeInfo, hi, Builtin.lenOf, Builtin.firstCells, hnc, storeCells]

set_option maxRecDepth 100000 in
theorem wp_appS {o : Oper} {a : Act} {K : Act → World → Prop} {Q : Exit → Act → World → Prop} (w : World) (s x : Operand)
    (ho : o.op = .call { callee := .builtin .append, args := #[s, x], argTypes := #[22, 22] })
    (base : Nat) (v : Value) (l news : List UInt8) (hs : a.eval s = v) (h : Ow w base v l) (A : Option Addr) (m c B : Nat) (hx : a.eval x = .slice A m c) (hm : m = news.length)
    (hr : Rd w B A news) (hlen : l.length + news.length ≤ 100000000) (hbase : base ≤ w.heap.size)
    (hK : ∀ v' w', Ow w' base v' (l ++ news) → w.grownBy w' v.ownBlock → K (a.put o.dst v') w') : o.wp Try.prog a w K Q := by
  subst hm
  obtain ⟨v', w', hr, h2, h3⟩ := run_appS o.type w base v l news h A c B hr hlen hbase
  unfold Oper.wp execOp
  simp only [ho, resolve, invoke, builtin, Sem.run_bind, Sem.run_pure, Result.andThen_ok, List.map_toArray, List.map_cons, List.map_nil, hs, hx, hr]
  exact hK v' w' h2 h3

set_option maxRecDepth 100000 in
/-- at an operation that is carried out (unguarded, or its guard says yes: 'rfl') -/
theorem wpList_appS {ops : Array Oper} {rest : List Oper} {o : Oper} {a : Act} {Q : Exit → Act → World → Prop} (w : World) (hw : Region.wanted o (yielded ops a.tmps) = true) (s x : Operand)
    (ho : o.op = .call { callee := .builtin .append, args := #[s, x], argTypes := #[22, 22] })
    (base : Nat) (v : Value) (l news : List UInt8) (hs : a.eval s = v) (h : Ow w base v l) (A : Option Addr) (m c B : Nat) (hx : a.eval x = .slice A m c) (hm : m = news.length)
    (hr : Rd w B A news) (hlen : l.length + news.length ≤ 100000000) (hbase : base ≤ w.heap.size)
    (hK : ∀ v' w', Ow w' base v' (l ++ news) → w.grownBy w' v.ownBlock → wpList Try.prog ops Q rest (a.put o.dst v') w') : wpList Try.prog ops Q (o :: rest) a w :=
  BigFrame.wpList_want hw fun _ hK' => wp_appS w s x ho base v l news hs h A m c B hx hm hr hlen hbase fun v' w' h2 h3 => hK' _ _ (hK v' w' h2 h3)

set_option maxRecDepth 100000 in
theorem Ow.made0 (w : World) {base : Nat} (hb : base ≤ w.heap.size) : Ow (w.alloc (.cells #[] 5)) base (.slice (some ⟨w.heap.size, 0, none⟩) 0 0) [] :=
  ⟨rfl, .inr ⟨w.heap.size, 0, #[], rfl, hb, heap_alloc_new w _, Nat.le_refl _, by simp [maxLen], rfl, rfl⟩⟩
set_option maxRecDepth 100000 in
theorem Ow.made1 (w : World) {base : Nat} (hb : base ≤ w.heap.size) (n : UInt8) : Ow (w.alloc (.cells #[.int .u8 (n.toNat : Int)] 5)) base (.slice (some ⟨w.heap.size, 0, none⟩) 1 1) [n] :=
  ⟨rfl, .inr ⟨w.heap.size, 1, #[.int .u8 (n.toNat : Int)], rfl, hb, heap_alloc_new w _, Nat.le_refl _, by simp [maxLen], rfl, rfl⟩⟩
set_option maxRecDepth 100000 in
/-- what is the call's own is a slice value -/
theorem Ow.form {w : World} {base : Nat} {v : Value} {l : List UInt8} (h : Ow w base v l) : ∃ A c, v = .slice A l.length c ∧ l.length ≤ c ∧ c ≤ 9223372036854775807 ∧ Rd w w.heap.size A l := h.sl
end Go.Proofs.Ytegekmgelnkdbaa
