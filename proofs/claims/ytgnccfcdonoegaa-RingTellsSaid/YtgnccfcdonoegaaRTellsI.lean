
/- RingTells' argument, opened. -/
import Derived.Test.YtgnccfcdonoegaaRTells
import Derived.Test.YtgnccfcdonoegaaJ13
namespace Go.Proofs.Ytgnccfcdonoegaa
open Go.ChangeShapes Go.WideShapes Go.ChangeAt Go.RowKit

set_option maxRecDepth 100000 in
theorem trod_struct4t {P : Program} {H : Type} {enc : TypeId × Value → H} {w : World} {base : Nat} {spare : Nat → Bool} {held : Bool} {t : TypeId} {f0 f1 f2 f3 : Field} {fuel : Nat} {cs : List Value} {x : DataW H × List MemPlace} (ht : P.underlying t = some (.struct #[f0, f1, f2, f3])) (h : DataW.trod enc P w base spare held fuel t cs = some x) :
    ∃ y0 y1 y2 y3 n, DataW.trod enc P w base spare held n f0.type ((cs.drop f0.offset).take (P.cellsOf f0.type)) = some y0 ∧ DataW.trod enc P w base spare held n f1.type ((cs.drop f1.offset).take (P.cellsOf f1.type)) = some y1 ∧
      DataW.trod enc P w base spare held n f2.type ((cs.drop f2.offset).take (P.cellsOf f2.type)) = some y2 ∧ DataW.trod enc P w base spare held n f3.type ((cs.drop f3.offset).take (P.cellsOf f3.type)) = some y3 := by
  obtain ⟨xs, n, _, rfl, hl, hlen, hf⟩ := DataW.trod_struct ht h
  match xs, hlen with
  | [y0, y1, y2, y3], _ => exact ⟨y0, y1, y2, y3, n, by simpa using hf 0 f0 rfl, by simpa using hf 1 f1 rfl, by simpa using hf 2 f2 rfl, by simpa using hf 3 f3 rfl⟩
set_option maxRecDepth 100000 in
theorem array18 {α : Type} {cs : Array α} (h : cs.size = 18) : ∃ v0 v1 v2 v3 v4 v5 v6 v7 v8 v9 v10 v11 v12 v13 v14 v15 v16 v17, cs = #[v0, v1, v2, v3, v4, v5, v6, v7, v8, v9, v10, v11, v12, v13, v14, v15, v16, v17] := by
  obtain ⟨l⟩ := cs
  match l, h with
  | [v0, v1, v2, v3, v4, v5, v6, v7, v8, v9, v10, v11, v12, v13, v14, v15, v16, v17], _ => exact ⟨v0, v1, v2, v3, v4, v5, v6, v7, v8, v9, v10, v11, v12, v13, v14, v15, v16, v17, rfl⟩
set_option maxRecDepth 100000 in
theorem tell_in {H : Type} {enc : TypeId × Value → H} {W : World} {base : Nat} {held : Bool} {b0 : Nat} {v : Value} {d : DataW H} {p : List MemPlace} (hv : Value.okWide Try.prog W .any b0 28 v) (h : DataW.Trod enc Try.prog W base (fun _ => true) held 28 v d p) :
    ∃ xa a xb b no A k c, v = .agg (tellC xa a xb b no A k c) ∧ Rg64 a ∧ Rg64 b ∧ B64r no ∧ RingR W xa a ∧ RingR W xb b ∧ KeyR W (A, c) k := by
  obtain ⟨cs, rfl, hsz⟩ := okWide_struct Try.underlying28 hv
  obtain ⟨v0, v1, v2, v3, v4, v5, v6, v7, v8, v9, v10, v11, v12, v13, v14, v15, v16, v17, rfl⟩ := array18 (hsz.trans (by kernel_rfl))
  obtain ⟨fuel, hf⟩ := h
  have hf' : DataW.trod enc Try.prog W base (fun _ => true) held fuel 28 [v0, v1, v2, v3, v4, v5, v6, v7, v8, v9, v10, v11, v12, v13, v14, v15, v16, v17] = some (d, p) := hf
  obtain ⟨y0, y1, y2, y3, n, h0, h1, h2, h3⟩ := trod_struct4t Try.underlying28 hf'
  have k1 : Try.prog.cellsOf 26 = 8 := by kernel_rfl
  have k2 : Try.prog.cellsOf 3 = 1 := by kernel_rfl
  have k3 : Try.prog.cellsOf 22 = 1 := by kernel_rfl
  have h0' : DataW.trod enc Try.prog W base (fun _ => true) held n 26 [v0, v1, v2, v3, v4, v5, v6, v7] = some y0 := by simpa [k1] using h0
  have h1' : DataW.trod enc Try.prog W base (fun _ => true) held n 26 [v8, v9, v10, v11, v12, v13, v14, v15] = some y1 := by simpa [k1] using h1
  have h2' : DataW.trod enc Try.prog W base (fun _ => true) held n 3 [v16] = some y2 := by simpa [k2] using h2
  have h3' : DataW.trod enc Try.prog W base (fun _ => true) held n 22 [v17] = some y3 := by simpa [k3] using h3
  clear h0 h1 h2 h3 hf hf'
  obtain ⟨xa, a, ea, ha, ra⟩ := ring_cells h0'
  obtain ⟨xb, b, eb, hb, rb⟩ := ring_cells h1'
  obtain ⟨no, rfl, hn⟩ := int_inR h2'
  obtain ⟨A, m, k, e0⟩ := Go.Joins.slice_form Try.underlying22 h3'
  simp only [List.cons.injEq, and_true] at e0
  subst e0
  obtain ⟨l, rfl, p1, p2, p3⟩ := bytes_in h3'
  unfold ringC at ea eb
  simp only [Array.mk.injEq, List.cons.injEq, and_true] at ea eb
  obtain ⟨rfl, rfl, rfl, rfl, rfl, rfl, rfl, rfl⟩ := ea
  obtain ⟨rfl, rfl, rfl, rfl, rfl, rfl, rfl, rfl⟩ := eb
  exact ⟨xa, a, xb, b, no, A, l, k, rfl, ha, hb, hn, ra, rb, p1, p2, p3⟩
end Go.Proofs.Ytgnccfcdonoegaa
