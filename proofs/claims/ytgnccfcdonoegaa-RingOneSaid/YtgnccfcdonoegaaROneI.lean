
/- RingOne's argument, opened. -/
import Derived.Test.YtgnccfcdonoegaaROne
import Derived.Test.YtgnccfcdonoegaaJ13
namespace Go.Proofs.Ytgnccfcdonoegaa
open Go.ChangeShapes Go.WideShapes Go.ChangeAt Go.RowKit

set_option maxRecDepth 100000 in
theorem trod_struct4o {P : Program} {H : Type} {enc : TypeId × Value → H} {w : World} {base : Nat} {spare : Nat → Bool} {held : Bool} {t : TypeId} {f0 f1 f2 f3 : Field} {fuel : Nat} {cs : List Value} {x : DataW H × List MemPlace} (ht : P.underlying t = some (.struct #[f0, f1, f2, f3])) (h : DataW.trod enc P w base spare held fuel t cs = some x) :
    ∃ y0 y1 y2 y3 n, DataW.trod enc P w base spare held n f0.type ((cs.drop f0.offset).take (P.cellsOf f0.type)) = some y0 ∧ DataW.trod enc P w base spare held n f1.type ((cs.drop f1.offset).take (P.cellsOf f1.type)) = some y1 ∧
      DataW.trod enc P w base spare held n f2.type ((cs.drop f2.offset).take (P.cellsOf f2.type)) = some y2 ∧ DataW.trod enc P w base spare held n f3.type ((cs.drop f3.offset).take (P.cellsOf f3.type)) = some y3 := by
  obtain ⟨xs, n, _, rfl, hl, hlen, hf⟩ := DataW.trod_struct ht h
  match xs, hlen with
  | [y0, y1, y2, y3], _ => exact ⟨y0, y1, y2, y3, n, by simpa using hf 0 f0 rfl, by simpa using hf 1 f1 rfl, by simpa using hf 2 f2 rfl, by simpa using hf 3 f3 rfl⟩
set_option maxRecDepth 100000 in
theorem array11 {α : Type} {cs : Array α} (h : cs.size = 11) : ∃ v0 v1 v2 v3 v4 v5 v6 v7 v8 v9 v10, cs = #[v0, v1, v2, v3, v4, v5, v6, v7, v8, v9, v10] := by
  obtain ⟨l⟩ := cs
  match l, h with
  | [v0, v1, v2, v3, v4, v5, v6, v7, v8, v9, v10], _ => exact ⟨v0, v1, v2, v3, v4, v5, v6, v7, v8, v9, v10, rfl⟩
set_option maxRecDepth 100000 in
theorem one_in {H : Type} {enc : TypeId × Value → H} {W : World} {base : Nat} {held : Bool} {b0 : Nat} {v : Value} {d : DataW H} {p : List MemPlace} (hv : Value.okWide Try.prog W .any b0 59 v) (h : DataW.Trod enc Try.prog W base (fun _ => true) held 59 v d p) :
    ∃ (xa : Wg) (a : Rg) (no : Int) (p q : UInt8), v = .agg (oneC xa a no p.toNat q.toNat) ∧ Rg64 a ∧ B64r no ∧ RingR W xa a := by
  obtain ⟨cs, rfl, hsz⟩ := okWide_struct Try.underlying59 hv
  obtain ⟨v0, v1, v2, v3, v4, v5, v6, v7, v8, v9, v10, rfl⟩ := array11 (hsz.trans (by kernel_rfl))
  obtain ⟨fuel, hf⟩ := h
  have hf' : DataW.trod enc Try.prog W base (fun _ => true) held fuel 59 [v0, v1, v2, v3, v4, v5, v6, v7, v8, v9, v10] = some (d, p) := hf
  obtain ⟨y0, y1, y2, y3, n, h0, h1, h2, h3⟩ := trod_struct4o Try.underlying59 hf'
  have k1 : Try.prog.cellsOf 26 = 8 := by kernel_rfl
  have k2 : Try.prog.cellsOf 3 = 1 := by kernel_rfl
  have k3 : Try.prog.cellsOf 5 = 1 := by kernel_rfl
  have h0' : DataW.trod enc Try.prog W base (fun _ => true) held n 26 [v0, v1, v2, v3, v4, v5, v6, v7] = some y0 := by simpa [k1] using h0
  have h1' : DataW.trod enc Try.prog W base (fun _ => true) held n 3 [v8] = some y1 := by simpa [k2] using h1
  have h2' : DataW.trod enc Try.prog W base (fun _ => true) held n 5 [v9] = some y2 := by simpa [k3] using h2
  have h3' : DataW.trod enc Try.prog W base (fun _ => true) held n 5 [v10] = some y3 := by simpa [k3] using h3
  clear h0 h1 h2 h3 hf hf'
  obtain ⟨xa, a, ea, ha, ra⟩ := ring_cells h0'
  obtain ⟨no, rfl, hn⟩ := int_inR h1'
  obtain ⟨z2, f2, -, w2⟩ := DataW.trod_int Try.underlying5 h2'
  obtain ⟨z3, f3, -, w3⟩ := DataW.trod_int Try.underlying5 h3'
  have g2 : [v9] = [Value.int .u8 z2] := f2
  have g3 : [v10] = [Value.int .u8 z3] := f3
  simp only [List.cons.injEq, and_true] at g2 g3
  subst g2 g3
  have b2 := u8_bd w2
  have b3 := u8_bd w3
  unfold ringC at ea
  simp only [Array.mk.injEq, List.cons.injEq, and_true] at ea
  obtain ⟨rfl, rfl, rfl, rfl, rfl, rfl, rfl, rfl⟩ := ea
  refine ⟨xa, a, no, UInt8.ofNat z2.toNat, UInt8.ofNat z3.toNat, ?_, ha, hn, ra⟩
  unfold oneC
  rw [show ((UInt8.ofNat z2.toNat).toNat : Int) = z2 by rw [UInt8.toNat_ofNat']; omega, show ((UInt8.ofNat z3.toNat).toNat : Int) = z3 by rw [UInt8.toNat_ofNat']; omega]
end Go.Proofs.Ytgnccfcdonoegaa
