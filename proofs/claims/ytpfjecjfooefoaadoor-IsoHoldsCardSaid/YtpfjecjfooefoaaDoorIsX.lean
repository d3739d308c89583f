
/- IsoHolds' argument, opened: a message, two numbers, two rows of bytes. -/
import Derived.Test.YtpfjecjfooefoaaDoorJ02
namespace Go.Proofs.YtpfjecjfooefoaaDoor
open Go.ChangeShapes Go.WideShapes Go.ChangeAt Go.RowKit

set_option maxRecDepth 100000 in
theorem array6 {α : Type} {cs : Array α} (h : cs.size = 6) : ∃ c0 c1 c2 c3 c4 c5, cs = #[c0, c1, c2, c3, c4, c5] := by
  obtain ⟨l⟩ := cs
  match l, h with
  | [c0, c1, c2, c3, c4, c5], _ => exact ⟨c0, c1, c2, c3, c4, c5, rfl⟩
set_option maxRecDepth 100000 in
theorem trod_struct5x {P : Program} {H : Type} {enc : TypeId × Value → H} {w : World} {base : Nat} {spare : Nat → Bool} {held : Bool} {t : TypeId} {f0 f1 f2 f3 f4 : Field} {fuel : Nat} {cs : List Value} {x : DataW H × List MemPlace} (ht : P.underlying t = some (.struct #[f0, f1, f2, f3, f4])) (h : DataW.trod enc P w base spare held fuel t cs = some x) :
    ∃ y0 y1 y2 y3 y4 n, DataW.trod enc P w base spare held n f0.type ((cs.drop f0.offset).take (P.cellsOf f0.type)) = some y0 ∧ DataW.trod enc P w base spare held n f1.type ((cs.drop f1.offset).take (P.cellsOf f1.type)) = some y1 ∧
      DataW.trod enc P w base spare held n f2.type ((cs.drop f2.offset).take (P.cellsOf f2.type)) = some y2 ∧ DataW.trod enc P w base spare held n f3.type ((cs.drop f3.offset).take (P.cellsOf f3.type)) = some y3 ∧ DataW.trod enc P w base spare held n f4.type ((cs.drop f4.offset).take (P.cellsOf f4.type)) = some y4 := by
  obtain ⟨xs, n, _, rfl, hl, hlen, hf⟩ := DataW.trod_struct ht h
  match xs, hlen with
  | [y0, y1, y2, y3, y4], _ => exact ⟨y0, y1, y2, y3, y4, n, by simpa using hf 0 f0 rfl, by simpa using hf 1 f1 rfl, by simpa using hf 2 f2 rfl, by simpa using hf 3 f3 rfl, by simpa using hf 4 f4 rfl⟩
set_option maxRecDepth 100000 in
theorem trod_struct2x {P : Program} {H : Type} {enc : TypeId × Value → H} {w : World} {base : Nat} {spare : Nat → Bool} {held : Bool} {t : TypeId} {f0 f1 : Field} {fuel : Nat} {cs : List Value} {x : DataW H × List MemPlace} (ht : P.underlying t = some (.struct #[f0, f1])) (h : DataW.trod enc P w base spare held fuel t cs = some x) :
    ∃ y0 y1 n, DataW.trod enc P w base spare held n f0.type ((cs.drop f0.offset).take (P.cellsOf f0.type)) = some y0 ∧ DataW.trod enc P w base spare held n f1.type ((cs.drop f1.offset).take (P.cellsOf f1.type)) = some y1 := by
  obtain ⟨xs, n, _, rfl, hl, hlen, hf⟩ := DataW.trod_struct ht h
  match xs, hlen with
  | [y0, y1], _ => exact ⟨y0, y1, n, by simpa using hf 0 f0 rfl, by simpa using hf 1 f1 rfl⟩
set_option maxRecDepth 100000 in
theorem holds_in {H : Type} {enc : TypeId × Value → H} {W : World} {base : Nat} {spare : Nat → Bool} {held : Bool} {b0 : Nat} {v : Value} {d : DataW H} {p : List MemPlace} (hv : Value.okWide Tryd.prog W .any b0 53 v) (h : DataW.Trod enc Tryd.prog W base spare held 53 v d p) :
    ∃ (t : Int) (A : Option Addr) (l : List Fl) (c : Nat) (no : Int) (B : Option Addr) (x : List UInt8) (cb : Nat) (C : Option Addr) (y : List UInt8) (cc : Nat) (o : Int),
      v = .agg #[.int .i64 t, .slice A l.length c, .int .i64 no, .slice B x.length cb, .slice C y.length cc, .int .i64 o] ∧
      (-9223372036854775808 ≤ t ∧ t ≤ 9223372036854775807) ∧ l.length ≤ c ∧ c ≤ 9223372036854775807 ∧ I64f l ∧ RdF W W.heap.size A l ∧ (-9223372036854775808 ≤ no ∧ no ≤ 9223372036854775807) ∧
      x.length ≤ cb ∧ cb ≤ 9223372036854775807 ∧ Rd W W.heap.size B x ∧ y.length ≤ cc ∧ cc ≤ 9223372036854775807 ∧ Rd W W.heap.size C y ∧ (-9223372036854775808 ≤ o ∧ o ≤ 9223372036854775807) := by
  obtain ⟨cs, rfl, hsz⟩ := okWide_struct Tryd.underlying53 hv
  obtain ⟨c0, c1, c2, c3, c4, c5, rfl⟩ := array6 (hsz.trans (by kernel_rfl))
  obtain ⟨fuel, hf⟩ := h
  obtain ⟨y0, y1, y2, y3, y4, n, h0, h1, h2, h3, h4⟩ := trod_struct5x Tryd.underlying53 hf
  have k0 : Tryd.prog.cellsOf 24 = 2 := by kernel_rfl
  have k1 : Tryd.prog.cellsOf 3 = 1 := by kernel_rfl
  have k2 : Tryd.prog.cellsOf 27 = 1 := by kernel_rfl
  have k3 : Tryd.prog.cellsOf 22 = 1 := by kernel_rfl
  have h0' : DataW.trod enc Tryd.prog W base spare held n 24 [c0, c1] = some y0 := by simpa [Value.cells, k0] using h0
  have h1' : DataW.trod enc Tryd.prog W base spare held n 3 [c2] = some y1 := by simpa [Value.cells, k1] using h1
  have h2' : DataW.trod enc Tryd.prog W base spare held n 27 [c3] = some y2 := by simpa [Value.cells, k2] using h2
  have h3' : DataW.trod enc Tryd.prog W base spare held n 27 [c4] = some y3 := by simpa [Value.cells, k2] using h3
  have h4' : DataW.trod enc Tryd.prog W base spare held n 3 [c5] = some y4 := by simpa [Value.cells, k1] using h4
  obtain ⟨z0, z1, m, g0, g1⟩ := trod_struct2x Tryd.underlying24 h0'
  have g0' : DataW.trod enc Tryd.prog W base spare held m 3 [c0] = some z0 := by simpa [k1] using g0
  have g1' : DataW.trod enc Tryd.prog W base spare held m 22 [c1] = some z1 := by simpa [k3] using g1
  clear h0 h1 h2 h3 h4 g0 g1 h0' hf hv hsz
  obtain ⟨a0, e0, -, w0⟩ := DataW.trod_int Tryd.underlying3 g0'
  obtain ⟨a2, e2, -, w2⟩ := DataW.trod_int Tryd.underlying3 h1'
  obtain ⟨a5, e5, -, w5⟩ := DataW.trod_int Tryd.underlying3 h4'
  obtain ⟨A1, n1, u1, e1⟩ := Go.Joins.slice_form Tryd.underlying22 g1'
  obtain ⟨A3, n3, u3, e3⟩ := Go.Joins.slice_form Tryd.underlying27 h2'
  obtain ⟨A4, n4, u4, e4⟩ := Go.Joins.slice_form Tryd.underlying27 h3'
  simp only [List.cons.injEq, and_true] at e0 e1 e2 e3 e4 e5
  subst e0 e1 e2 e3 e4 e5
  obtain ⟨l, rfl, p1, p2, p3, p4⟩ := vals_in g1'
  obtain ⟨x, rfl, q1, q2, q3⟩ := bytes_in h2'
  obtain ⟨y, rfl, r1, r2, r3⟩ := bytes_in h3'
  exact ⟨a0, A1, l, u1, a2, A3, x, u3, A4, y, u4, a5, rfl, i64_bd w0, p1, p2, p3, p4, i64_bd w2, q1, q2, q3, r1, r2, r3, i64_bd w5⟩
end Go.Proofs.YtpfjecjfooefoaaDoor
