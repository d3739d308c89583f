
/- What the laws' frames share: a digest under way that came in by value. -/
import Derived.Test.YtcfncbbdlbdbnaaDoorOpen
namespace Go.Proofs.YtcfncbbdlbdbnaaDoor
open Go.ChangeShapes Go.WideShapes Go.ChangeAt Go.RowKit

theorem open_hash {H : Type} {enc : TypeId × Value → H} {W : World} {b0 : Nat} {spare : Nat → Bool} {held : Bool} {v : Value} {d : DataW H} {p : List MemPlace} {base : Nat}
    (hok : Value.okWide Tryd.prog W .any b0 78 v) (h : DataW.Trod enc Tryd.prog W base spare held 78 v d p) :
    ∃ (s : St) (N : Int) (A : Option Addr) (l : List UInt8) (c : Nat), v = hv s N (.slice A l.length c) ∧ (-9223372036854775808 ≤ N ∧ N ≤ 9223372036854775807) ∧ l.length ≤ c ∧ c ≤ 9223372036854775807 ∧ Rd W W.heap.size A l := by
  obtain ⟨cs, rfl, _⟩ := okWide_struct Tryd.underlying78 hok
  obtain ⟨fuel, hf⟩ := h
  obtain ⟨xs, n, rfl, -, hlen, hn, hel⟩ := DataW.trod_struct Tryd.underlying78 hf
  have hc : Tryd.prog.cellsOf 78 = 10 := by kernel_rfl
  have c8 : Tryd.prog.cellsOf 76 = 8 := by kernel_rfl
  have c1 : Tryd.prog.cellsOf 3 = 1 := by kernel_rfl
  have c2 : Tryd.prog.cellsOf 25 = 1 := by kernel_rfl
  rw [hc] at hlen
  have k0 : DataW.trod enc Tryd.prog W base spare held n 76 ((cs.toList.drop 0).take (Tryd.prog.cellsOf 76)) = xs[0]? := hel 0 _ rfl
  have k1 : DataW.trod enc Tryd.prog W base spare held n 3 ((cs.toList.drop 8).take (Tryd.prog.cellsOf 3)) = xs[1]? := hel 1 _ rfl
  have k2 : DataW.trod enc Tryd.prog W base spare held n 25 ((cs.toList.drop 9).take (Tryd.prog.cellsOf 25)) = xs[2]? := hel 2 _ rfl
  rw [c8] at k0
  rw [c1] at k1
  rw [c2] at k2
  obtain ⟨l0⟩ := cs
  match l0, hlen, k0, k1, k2 with
  | [v0, v1, v2, v3, v4, v5, v6, v7, v8, v9], _, k0, k1, k2 =>
    have hn3 : xs.length = 3 := hn
    rw [List.getElem?_eq_getElem (by omega)] at k0 k1 k2
    obtain ⟨s, hs⟩ := st_cells k0
    obtain ⟨N, e1, _, hw⟩ := DataW.trod_int Tryd.underlying3 k1
    obtain ⟨A, m, c, e2⟩ := Go.Joins.slice_form Tryd.underlying25 k2
    have f0 : [v0, v1, v2, v3, v4, v5, v6, v7] = s.cells.toList := hs
    have f1 : [v8] = [Value.int .i64 N] := e1
    have f2 : [v9] = [Value.slice A m c] := e2
    have g2 : DataW.trod enc Tryd.prog W base spare held n 25 [v9] = some (xs[2]'(by omega)) := k2
    simp only [List.cons.injEq, and_true] at f0 f1 f2
    obtain ⟨rfl, rfl, rfl, rfl, rfl, rfl, rfl, rfl⟩ := f0
    subst f1 f2
    obtain ⟨l, rfl, h1, h2, h3⟩ := bytes_in g2
    exact ⟨s, N, A, l, c, rfl, i64_bd hw, h1, h2, h3⟩
end Go.Proofs.YtcfncbbdlbdbnaaDoor
