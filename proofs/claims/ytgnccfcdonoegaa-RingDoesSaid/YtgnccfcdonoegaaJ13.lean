
/- A ring that came in by value, opened. -/
import Derived.Test.YtgnccfcdonoegaaJ11
import Derived.Test.YtgnccfcdonoegaaJ01
import Derived.OpenShut
namespace Go.Proofs.Ytgnccfcdonoegaa
open Go.ChangeShapes Go.WideShapes Go.ChangeAt Go.RowKit

set_option maxRecDepth 100000 in
theorem trod_struct5y {P : Program} {H : Type} {enc : TypeId × Value → H} {w : World} {base : Nat} {spare : Nat → Bool} {held : Bool} {t : TypeId} {f0 f1 f2 f3 f4 : Field} {fuel : Nat} {cs : List Value} {x : DataW H × List MemPlace} (ht : P.underlying t = some (.struct #[f0, f1, f2, f3, f4])) (h : DataW.trod enc P w base spare held fuel t cs = some x) :
    ∃ y0 y1 y2 y3 y4 n, DataW.trod enc P w base spare held n f0.type ((cs.drop f0.offset).take (P.cellsOf f0.type)) = some y0 ∧ DataW.trod enc P w base spare held n f1.type ((cs.drop f1.offset).take (P.cellsOf f1.type)) = some y1 ∧
      DataW.trod enc P w base spare held n f2.type ((cs.drop f2.offset).take (P.cellsOf f2.type)) = some y2 ∧ DataW.trod enc P w base spare held n f3.type ((cs.drop f3.offset).take (P.cellsOf f3.type)) = some y3 ∧ DataW.trod enc P w base spare held n f4.type ((cs.drop f4.offset).take (P.cellsOf f4.type)) = some y4 := by
  obtain ⟨xs, n, _, rfl, hl, hlen, hf⟩ := DataW.trod_struct ht h
  match xs, hlen with
  | [y0, y1, y2, y3, y4], _ => exact ⟨y0, y1, y2, y3, y4, n, by simpa using hf 0 f0 rfl, by simpa using hf 1 f1 rfl, by simpa using hf 2 f2 rfl, by simpa using hf 3 f3 rfl, by simpa using hf 4 f4 rfl⟩
set_option maxRecDepth 100000 in
theorem trod_struct2y {P : Program} {H : Type} {enc : TypeId × Value → H} {w : World} {base : Nat} {spare : Nat → Bool} {held : Bool} {t : TypeId} {f0 f1 : Field} {fuel : Nat} {cs : List Value} {x : DataW H × List MemPlace} (ht : P.underlying t = some (.struct #[f0, f1])) (h : DataW.trod enc P w base spare held fuel t cs = some x) :
    ∃ y0 y1 n, DataW.trod enc P w base spare held n f0.type ((cs.drop f0.offset).take (P.cellsOf f0.type)) = some y0 ∧ DataW.trod enc P w base spare held n f1.type ((cs.drop f1.offset).take (P.cellsOf f1.type)) = some y1 := by
  obtain ⟨xs, n, _, rfl, hl, hlen, hf⟩ := DataW.trod_struct ht h
  match xs, hlen with
  | [y0, y1], _ => exact ⟨y0, y1, n, by simpa using hf 0 f0 rfl, by simpa using hf 1 f1 rfl⟩
set_option maxRecDepth 100000 in
theorem int_inR {H : Type} {enc : TypeId × Value → H} {W : World} {base fuel : Nat} {spare : Nat → Bool} {held : Bool} {a : Value} {y : DataW H × List MemPlace} (hf : DataW.trod enc Try.prog W base spare held fuel 3 [a] = some y) : ∃ u, a = .int .i64 u ∧ B64r u := by
  obtain ⟨u, e, -, w⟩ := DataW.trod_int Try.underlying3 hf
  simp only [List.cons.injEq, and_true] at e
  exact ⟨u, e, i64_bd w⟩
set_option maxRecDepth 100000 in
theorem gen_in {H : Type} {enc : TypeId × Value → H} {W : World} {base fuel : Nat} {held : Bool} {a b : Value} {y : DataW H × List MemPlace} (hf : DataW.trod enc Try.prog W base (fun _ => true) held fuel 24 [a, b] = some y) :
    ∃ (x : Wk) (g : Gn), a = .int .i64 g.no ∧ b = .slice x.1 g.key.length x.2 ∧ B64r g.no ∧ KeyR W x g.key := by
  obtain ⟨y0, y1, n, h0, h1⟩ := trod_struct2y Try.underlying24 hf
  have k1 : Try.prog.cellsOf 3 = 1 := by kernel_rfl
  have k2 : Try.prog.cellsOf 22 = 1 := by kernel_rfl
  have h0' : DataW.trod enc Try.prog W base (fun _ => true) held n 3 [a] = some y0 := by simpa [k1] using h0
  have h1' : DataW.trod enc Try.prog W base (fun _ => true) held n 22 [b] = some y1 := by simpa [k2] using h1
  obtain ⟨u, rfl, w⟩ := int_inR h0'
  obtain ⟨A, m, k, e0⟩ := Go.Joins.slice_form Try.underlying22 h1'
  simp only [List.cons.injEq, and_true] at e0
  subst e0
  obtain ⟨l, rfl, p1, p2, p3⟩ := bytes_in h1'
  exact ⟨(A, k), ⟨u, l⟩, rfl, rfl, w, p1, p2, p3⟩
set_option maxRecDepth 100000 in
theorem ring_cells {H : Type} {enc : TypeId × Value → H} {W : World} {base fuel : Nat} {held : Bool} {v0 v1 v2 v3 v4 v5 v6 v7 : Value} {y : DataW H × List MemPlace}
    (hf : DataW.trod enc Try.prog W base (fun _ => true) held fuel 26 [v0, v1, v2, v3, v4, v5, v6, v7] = some y) :
    ∃ x r, #[v0, v1, v2, v3, v4, v5, v6, v7] = ringC x r ∧ Rg64 r ∧ RingR W x r := by
  obtain ⟨y0, y1, y2, y3, y4, n, h0, h1, h2, h3, h4⟩ := trod_struct5y Try.underlying26 hf
  have k1 : Try.prog.cellsOf 3 = 1 := by kernel_rfl
  have k2 : Try.prog.cellsOf 24 = 2 := by kernel_rfl
  obtain ⟨x0, g0, rfl, rfl, b0, q0⟩ := gen_in (a := v0) (b := v1) (by simpa [k2] using h0)
  obtain ⟨x1, g1, rfl, rfl, b1, q1⟩ := gen_in (a := v2) (b := v3) (by simpa [k2] using h1)
  obtain ⟨x2, g2, rfl, rfl, b2, q2⟩ := gen_in (a := v4) (b := v5) (by simpa [k2] using h2)
  obtain ⟨l, rfl, b3⟩ := int_inR (a := v6) (by simpa [k1] using h3)
  obtain ⟨t, rfl, b4⟩ := int_inR (a := v7) (by simpa [k1] using h4)
  exact ⟨⟨x0, x1, x2⟩, ⟨g0, g1, g2, l, t⟩, rfl, ⟨b0, b1, b2, b3, b4⟩, q0, q1, q2⟩
set_option maxRecDepth 100000 in
theorem array8 {α : Type} {cs : Array α} (h : cs.size = 8) : ∃ v0 v1 v2 v3 v4 v5 v6 v7, cs = #[v0, v1, v2, v3, v4, v5, v6, v7] := by
  obtain ⟨l⟩ := cs
  match l, h with
  | [v0, v1, v2, v3, v4, v5, v6, v7], _ => exact ⟨v0, v1, v2, v3, v4, v5, v6, v7, rfl⟩
set_option maxRecDepth 100000 in
theorem ring_in {H : Type} {enc : TypeId × Value → H} {W : World} {base : Nat} {held : Bool} {b0 : Nat} {v : Value} {d : DataW H} {p : List MemPlace} (hv : Value.okWide Try.prog W .any b0 26 v) (h : DataW.Trod enc Try.prog W base (fun _ => true) held 26 v d p) :
    ∃ x r, v = .agg (ringC x r) ∧ Rg64 r ∧ RingR W x r := by
  obtain ⟨cs, rfl, hsz⟩ := okWide_struct Try.underlying26 hv
  obtain ⟨v0, v1, v2, v3, v4, v5, v6, v7, rfl⟩ := array8 (hsz.trans (by kernel_rfl))
  obtain ⟨fuel, hf⟩ := h
  obtain ⟨x, r, e, h1, h2⟩ := ring_cells hf
  exact ⟨x, r, by rw [e], h1, h2⟩
end Go.Proofs.Ytgnccfcdonoegaa
