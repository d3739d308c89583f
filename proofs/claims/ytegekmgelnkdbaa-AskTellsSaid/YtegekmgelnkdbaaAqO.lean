
/- A question that came in by value, opened; the arguments of AskTells and AskBegins. -/
import Derived.Test.YtegekmgelnkdbaaAqK
import Derived.Test.YtegekmgelnkdbaaFrame
import Derived.OpenShut
namespace Go.Proofs.Ytegekmgelnkdbaa
open Go.ChangeShapes Go.WideShapes Go.ChangeAt Go.RowKit

set_option maxRecDepth 100000 in
theorem trod_struct5a {P : Program} {H : Type} {enc : TypeId × Value → H} {w : World} {base : Nat} {spare : Nat → Bool} {held : Bool} {t : TypeId} {f0 f1 f2 f3 f4 : Field} {fuel : Nat} {cs : List Value} {x : DataW H × List MemPlace} (ht : P.underlying t = some (.struct #[f0, f1, f2, f3, f4])) (h : DataW.trod enc P w base spare held fuel t cs = some x) :
    ∃ y0 y1 y2 y3 y4 n, DataW.trod enc P w base spare held n f0.type ((cs.drop f0.offset).take (P.cellsOf f0.type)) = some y0 ∧ DataW.trod enc P w base spare held n f1.type ((cs.drop f1.offset).take (P.cellsOf f1.type)) = some y1 ∧
      DataW.trod enc P w base spare held n f2.type ((cs.drop f2.offset).take (P.cellsOf f2.type)) = some y2 ∧ DataW.trod enc P w base spare held n f3.type ((cs.drop f3.offset).take (P.cellsOf f3.type)) = some y3 ∧ DataW.trod enc P w base spare held n f4.type ((cs.drop f4.offset).take (P.cellsOf f4.type)) = some y4 := by
  obtain ⟨xs, n, _, rfl, hl, hlen, hf⟩ := DataW.trod_struct ht h
  match xs, hlen with
  | [y0, y1, y2, y3, y4], _ => exact ⟨y0, y1, y2, y3, y4, n, by simpa using hf 0 f0 rfl, by simpa using hf 1 f1 rfl, by simpa using hf 2 f2 rfl, by simpa using hf 3 f3 rfl, by simpa using hf 4 f4 rfl⟩
set_option maxRecDepth 100000 in
theorem trod_struct4a {P : Program} {H : Type} {enc : TypeId × Value → H} {w : World} {base : Nat} {spare : Nat → Bool} {held : Bool} {t : TypeId} {f0 f1 f2 f3 : Field} {fuel : Nat} {cs : List Value} {x : DataW H × List MemPlace} (ht : P.underlying t = some (.struct #[f0, f1, f2, f3])) (h : DataW.trod enc P w base spare held fuel t cs = some x) :
    ∃ y0 y1 y2 y3 n, DataW.trod enc P w base spare held n f0.type ((cs.drop f0.offset).take (P.cellsOf f0.type)) = some y0 ∧ DataW.trod enc P w base spare held n f1.type ((cs.drop f1.offset).take (P.cellsOf f1.type)) = some y1 ∧
      DataW.trod enc P w base spare held n f2.type ((cs.drop f2.offset).take (P.cellsOf f2.type)) = some y2 ∧ DataW.trod enc P w base spare held n f3.type ((cs.drop f3.offset).take (P.cellsOf f3.type)) = some y3 := by
  obtain ⟨xs, n, _, rfl, hl, hlen, hf⟩ := DataW.trod_struct ht h
  match xs, hlen with
  | [y0, y1, y2, y3], _ => exact ⟨y0, y1, y2, y3, n, by simpa using hf 0 f0 rfl, by simpa using hf 1 f1 rfl, by simpa using hf 2 f2 rfl, by simpa using hf 3 f3 rfl⟩
set_option maxRecDepth 100000 in
theorem int_inA {H : Type} {enc : TypeId × Value → H} {W : World} {base fuel : Nat} {spare : Nat → Bool} {held : Bool} {a : Value} {y : DataW H × List MemPlace} (hf : DataW.trod enc Try.prog W base spare held fuel 3 [a] = some y) : ∃ u : Int, a = .int .i64 u ∧ B64a u := by
  obtain ⟨u, e, -, w⟩ := DataW.trod_int Try.underlying3 hf
  simp only [List.cons.injEq, and_true] at e
  exact ⟨u, e, i64_bd w⟩
set_option maxRecDepth 100000 in
theorem row_inA {H : Type} {enc : TypeId × Value → H} {W : World} {base fuel : Nat} {held : Bool} {a : Value} {y : DataW H × List MemPlace} (hf : DataW.trod enc Try.prog W base (fun _ => true) held fuel 22 [a] = some y) : ∃ (x : Wkb) (l : List UInt8), a = .slice x.1 l.length x.2 ∧ KeyB W x l := by
  obtain ⟨A, m, k, e0⟩ := Go.Joins.slice_form Try.underlying22 hf
  simp only [List.cons.injEq, and_true] at e0
  subst e0
  obtain ⟨l, rfl, p1, p2, p3⟩ := bytes_in hf
  exact ⟨(A, k), l, rfl, p1, p2, p3⟩
set_option maxRecDepth 100000 in
theorem ask_cells {H : Type} {enc : TypeId × Value → H} {W : World} {base fuel : Nat} {held : Bool} {v0 v1 v2 v3 v4 : Value} {y : DataW H × List MemPlace}
    (hf : DataW.trod enc Try.prog W base (fun _ => true) held fuel 24 [v0, v1, v2, v3, v4] = some y) :
    ∃ x a, #[v0, v1, v2, v3, v4] = askC x a ∧ Aq64 a ∧ AqR W x a := by
  obtain ⟨y0, y1, y2, y3, y4, n, h0, h1, h2, h3, h4⟩ := trod_struct5a Try.underlying24 hf
  have k1 : Try.prog.cellsOf 3 = 1 := by kernel_rfl
  have k2 : Try.prog.cellsOf 22 = 1 := by kernel_rfl
  obtain ⟨a0, rfl, b0⟩ := int_inA (a := v0) (by simpa [k1] using h0)
  obtain ⟨a1, rfl, b1⟩ := int_inA (a := v1) (by simpa [k1] using h1)
  obtain ⟨a2, rfl, b2⟩ := int_inA (a := v2) (by simpa [k1] using h2)
  obtain ⟨a3, rfl, b3⟩ := int_inA (a := v3) (by simpa [k1] using h3)
  obtain ⟨x4, l4, rfl, r4⟩ := row_inA (a := v4) (by simpa [k2] using h4)
  exact ⟨x4, ⟨a0, a1, a2, a3, l4⟩, rfl, ⟨b0, b1, b2, b3⟩, r4⟩
set_option maxRecDepth 100000 in
theorem array5a {α : Type} {cs : Array α} (h : cs.size = 5) : ∃ v0 v1 v2 v3 v4, cs = #[v0, v1, v2, v3, v4] := by
  obtain ⟨l⟩ := cs
  match l, h with
  | [v0, v1, v2, v3, v4], _ => exact ⟨v0, v1, v2, v3, v4, rfl⟩
set_option maxRecDepth 100000 in
theorem array4a {α : Type} {cs : Array α} (h : cs.size = 4) : ∃ v0 v1 v2 v3, cs = #[v0, v1, v2, v3] := by
  obtain ⟨l⟩ := cs
  match l, h with
  | [v0, v1, v2, v3], _ => exact ⟨v0, v1, v2, v3, rfl⟩
set_option maxRecDepth 100000 in
theorem array13a {α : Type} {cs : Array α} (h : cs.size = 13) : ∃ v0 v1 v2 v3 v4 v5 v6 v7 v8 v9 v10 v11 v12, cs = #[v0, v1, v2, v3, v4, v5, v6, v7, v8, v9, v10, v11, v12] := by
  obtain ⟨l⟩ := cs
  match l, h with
  | [v0, v1, v2, v3, v4, v5, v6, v7, v8, v9, v10, v11, v12], _ => exact ⟨v0, v1, v2, v3, v4, v5, v6, v7, v8, v9, v10, v11, v12, rfl⟩
set_option maxRecDepth 100000 in
theorem ask_in {H : Type} {enc : TypeId × Value → H} {W : World} {base : Nat} {held : Bool} {b0 : Nat} {v : Value} {d : DataW H} {p : List MemPlace} (hv : Value.okWide Try.prog W .any b0 24 v) (h : DataW.Trod enc Try.prog W base (fun _ => true) held 24 v d p) :
    ∃ x a, v = .agg (askC x a) ∧ Aq64 a ∧ AqR W x a := by
  obtain ⟨cs, rfl, hsz⟩ := okWide_struct Try.underlying24 hv
  obtain ⟨v0, v1, v2, v3, v4, rfl⟩ := array5a (hsz.trans (by kernel_rfl))
  obtain ⟨fuel, hf⟩ := h
  obtain ⟨x, r, e, h1, h2⟩ := ask_cells hf
  exact ⟨x, r, by rw [e], h1, h2⟩
/-- AskTells' argument -/
def aTellC (x : Wkb) (a : Aq) (y : Wkb) (b : Aq) (c s : Int) (z : Wkb) (l : List UInt8) : Array Value :=
  #[.int .i64 a.code, .int .i64 a.stan, .int .i64 a.due, .int .i64 a.left, .slice x.1 a.body.length x.2, .int .i64 b.code, .int .i64 b.stan, .int .i64 b.due, .int .i64 b.left, .slice y.1 b.body.length y.2, .int .i64 c, .int .i64 s, .slice z.1 l.length z.2]
set_option maxRecDepth 100000 in
theorem askTells_in {H : Type} {enc : TypeId × Value → H} {W : World} {base : Nat} {held : Bool} {b0 : Nat} {v : Value} {d : DataW H} {p : List MemPlace} (hv : Value.okWide Try.prog W .any b0 26 v) (h : DataW.Trod enc Try.prog W base (fun _ => true) held 26 v d p) :
    ∃ x a y b c s z l, v = .agg (aTellC x a y b c s z l) ∧ Aq64 a ∧ Aq64 b ∧ B64a c ∧ B64a s ∧ AqR W x a ∧ AqR W y b ∧ KeyB W z l := by
  obtain ⟨cs, rfl, hsz⟩ := okWide_struct Try.underlying26 hv
  obtain ⟨v0, v1, v2, v3, v4, v5, v6, v7, v8, v9, v10, v11, v12, rfl⟩ := array13a (hsz.trans (by kernel_rfl))
  obtain ⟨fuel, hf⟩ := h
  have hf' : DataW.trod enc Try.prog W base (fun _ => true) held fuel 26 [v0, v1, v2, v3, v4, v5, v6, v7, v8, v9, v10, v11, v12] = some (d, p) := hf
  obtain ⟨y0, y1, y2, y3, y4, n, h0, h1, h2, h3, h4⟩ := trod_struct5a Try.underlying26 hf'
  have k1 : Try.prog.cellsOf 24 = 5 := by kernel_rfl
  have k2 : Try.prog.cellsOf 3 = 1 := by kernel_rfl
  have k3 : Try.prog.cellsOf 22 = 1 := by kernel_rfl
  have h0' : DataW.trod enc Try.prog W base (fun _ => true) held n 24 [v0, v1, v2, v3, v4] = some y0 := by simpa [k1] using h0
  have h1' : DataW.trod enc Try.prog W base (fun _ => true) held n 24 [v5, v6, v7, v8, v9] = some y1 := by simpa [k1] using h1
  obtain ⟨c, rfl, hc⟩ := int_inA (a := v10) (by simpa [k2] using h2)
  obtain ⟨s, rfl, hs⟩ := int_inA (a := v11) (by simpa [k2] using h3)
  obtain ⟨z, l, rfl, hz⟩ := row_inA (a := v12) (by simpa [k3] using h4)
  obtain ⟨x, a, ea, ha, ra⟩ := ask_cells h0'
  obtain ⟨y, b, eb, hb, rb⟩ := ask_cells h1'
  unfold askC at ea eb
  simp only [Array.mk.injEq, List.cons.injEq, and_true] at ea eb
  obtain ⟨rfl, rfl, rfl, rfl, rfl⟩ := ea
  obtain ⟨rfl, rfl, rfl, rfl, rfl⟩ := eb
  exact ⟨x, a, y, b, c, s, z, l, rfl, ha, hb, hc, hs, ra, rb, hz⟩
/-- AskBegins' argument -/
def aBegC (c s : Int) (z : Wkb) (l : List UInt8) (o : Int) : Array Value := #[.int .i64 c, .int .i64 s, .slice z.1 l.length z.2, .int .i64 o]
set_option maxRecDepth 100000 in
theorem askBegins_in {H : Type} {enc : TypeId × Value → H} {W : World} {base : Nat} {held : Bool} {b0 : Nat} {v : Value} {d : DataW H} {p : List MemPlace} (hv : Value.okWide Try.prog W .any b0 43 v) (h : DataW.Trod enc Try.prog W base (fun _ => true) held 43 v d p) :
    ∃ c s z l o, v = .agg (aBegC c s z l o) ∧ B64a c ∧ B64a s ∧ KeyB W z l ∧ B64a o := by
  obtain ⟨cs, rfl, hsz⟩ := okWide_struct Try.underlying43 hv
  obtain ⟨v0, v1, v2, v3, rfl⟩ := array4a (hsz.trans (by kernel_rfl))
  obtain ⟨fuel, hf⟩ := h
  have hf' : DataW.trod enc Try.prog W base (fun _ => true) held fuel 43 [v0, v1, v2, v3] = some (d, p) := hf
  obtain ⟨y0, y1, y2, y3, n, h0, h1, h2, h3⟩ := trod_struct4a Try.underlying43 hf'
  have k2 : Try.prog.cellsOf 3 = 1 := by kernel_rfl
  have k3 : Try.prog.cellsOf 22 = 1 := by kernel_rfl
  obtain ⟨c, rfl, hc⟩ := int_inA (a := v0) (by simpa [k2] using h0)
  obtain ⟨s, rfl, hs⟩ := int_inA (a := v1) (by simpa [k2] using h1)
  obtain ⟨z, l, rfl, hz⟩ := row_inA (a := v2) (by simpa [k3] using h2)
  obtain ⟨o, rfl, ho⟩ := int_inA (a := v3) (by simpa [k2] using h3)
  exact ⟨c, s, z, l, o, rfl, hc, hs, hz, ho⟩
end Go.Proofs.Ytegekmgelnkdbaa
