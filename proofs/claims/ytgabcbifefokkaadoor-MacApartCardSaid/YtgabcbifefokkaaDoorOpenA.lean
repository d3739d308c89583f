
/- What MacApart's frame asks: its argument, that came in by value. -/
import Derived.Test.YtgabcbifefokkaaDoorOpenH
import Derived.Test.YtgabcbifefokkaaDoorMat
namespace Go.Proofs.YtgabcbifefokkaaDoor
open Go.ChangeShapes Go.WideShapes Go.ChangeAt Go.RowKit

theorem open_apart {H : Type} {enc : TypeId × Value → H} {W : World} {b0 : Nat} {held : Bool} {v : Value} {d : DataW H} {p : List MemPlace} {base : Nat}
    (hok : Value.okWide Tryd.prog W .any b0 36 v) (h : DataW.Trod enc Tryd.prog W base (fun _ => true) held 36 v d p) :
    ∃ (A : Option Addr) (k : List UInt8) (c : Nat) (a b : ByteArray) (P : Option Addr) (ps : List (List UInt8)) (pc : Nat) (Q : Option Addr) (qs : List (List UInt8)) (qc : Nat),
      v = .agg #[.slice A k.length c, .string a, .string b, .slice P ps.length pc, .slice Q qs.length qc] ∧ k.length ≤ c ∧ Rd W W.heap.size A k ∧ a.size ≤ 9223372036854775807 ∧ b.size ≤ 9223372036854775807 ∧ ps.length ≤ pc ∧ pc ≤ 9223372036854775807 ∧ Mat W W.heap.size P ps ∧ qs.length ≤ qc ∧ qc ≤ 9223372036854775807 ∧ Mat W W.heap.size Q qs := by
  obtain ⟨cs, rfl, _⟩ := okWide_struct Tryd.underlying36 hok
  obtain ⟨fuel, hf⟩ := h
  obtain ⟨xs, n, rfl, -, hlen, hn, hel⟩ := DataW.trod_struct Tryd.underlying36 hf
  have hc : Tryd.prog.cellsOf 36 = 5 := by kernel_rfl
  have c2 : Tryd.prog.cellsOf 22 = 1 := by kernel_rfl
  have c3 : Tryd.prog.cellsOf 9 = 1 := by kernel_rfl
  have c4 : Tryd.prog.cellsOf 27 = 1 := by kernel_rfl
  rw [hc] at hlen
  have k0 : DataW.trod enc Tryd.prog W base (fun _ => true) held n 22 ((cs.toList.drop 0).take (Tryd.prog.cellsOf 22)) = xs[0]? := hel 0 _ rfl
  have k1 : DataW.trod enc Tryd.prog W base (fun _ => true) held n 9 ((cs.toList.drop 1).take (Tryd.prog.cellsOf 9)) = xs[1]? := hel 1 _ rfl
  have k2 : DataW.trod enc Tryd.prog W base (fun _ => true) held n 9 ((cs.toList.drop 2).take (Tryd.prog.cellsOf 9)) = xs[2]? := hel 2 _ rfl
  have k3 : DataW.trod enc Tryd.prog W base (fun _ => true) held n 27 ((cs.toList.drop 3).take (Tryd.prog.cellsOf 27)) = xs[3]? := hel 3 _ rfl
  have k4 : DataW.trod enc Tryd.prog W base (fun _ => true) held n 27 ((cs.toList.drop 4).take (Tryd.prog.cellsOf 27)) = xs[4]? := hel 4 _ rfl
  rw [c2] at k0
  rw [c3] at k1 k2
  rw [c4] at k3 k4
  obtain ⟨l0⟩ := cs
  match l0, hlen, k0, k1, k2, k3, k4 with
  | [v0, v1, v2, v3, v4], _, k0, k1, k2, k3, k4 =>
    have hn3 : xs.length = 5 := hn
    rw [List.getElem?_eq_getElem (by omega)] at k0 k1 k2 k3 k4
    obtain ⟨A, m0, c0, e0⟩ := Go.Joins.slice_form Tryd.underlying22 k0
    obtain ⟨a, e1, -, w1⟩ := DataW.trod_string Tryd.underlying9 k1
    obtain ⟨b, e2, -, w2⟩ := DataW.trod_string Tryd.underlying9 k2
    obtain ⟨P, m3, c3, e3⟩ := Go.Joins.slice_form Tryd.underlying27 k3
    obtain ⟨Q, m4, c4, e4⟩ := Go.Joins.slice_form Tryd.underlying27 k4
    have f0 : [v0] = [Value.slice A m0 c0] := e0
    have f1 : [v1] = [Value.string a] := e1
    have f2 : [v2] = [Value.string b] := e2
    have f3 : [v3] = [Value.slice P m3 c3] := e3
    have f4 : [v4] = [Value.slice Q m4 c4] := e4
    have g0 : DataW.trod enc Tryd.prog W base (fun _ => true) held n 22 [v0] = some (xs[0]'(by omega)) := k0
    have g3 : DataW.trod enc Tryd.prog W base (fun _ => true) held n 27 [v3] = some (xs[3]'(by omega)) := k3
    have g4 : DataW.trod enc Tryd.prog W base (fun _ => true) held n 27 [v4] = some (xs[4]'(by omega)) := k4
    simp only [List.cons.injEq, and_true] at f0 f1 f2 f3 f4
    subst f0 f1 f2 f3 f4
    obtain ⟨k, rfl, h1, h2, h3⟩ := bytes_in g0
    obtain ⟨ps, rfl, p1, p2, p3⟩ := mat_in g3
    obtain ⟨qs, rfl, q1, q2, q3⟩ := mat_in g4
    exact ⟨A, k, c0, a, b, P, ps, c3, Q, qs, c4, rfl, h1, h3, by simpa [maxLen] using w1, by simpa [maxLen] using w2, p1, p2, p3, q1, q2, q3⟩
end Go.Proofs.YtgabcbifefokkaaDoor
