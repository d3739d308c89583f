
/- What prov's frames ask: their arguments, that came in by value. -/
import Derived.Test.YtcfncbbdlbdbnaaDoorOpenH
import Derived.Test.YtcfncbbdlbdbnaaDoorPrA
namespace Go.Proofs.YtcfncbbdlbdbnaaDoor
open Go.ChangeShapes Go.WideShapes Go.ChangeAt Go.RowKit

theorem prov_cells {H : Type} {enc : TypeId × Value → H} {W : World} {base fuel : Nat} {spare : Nat → Bool} {held : Bool} {cs : List Value} {y : DataW H × List MemPlace}
    (hf : DataW.trod enc Tryd.prog W base spare held fuel 24 cs = some y) : ∃ (i : Bool) (A : Option Addr) (l : List Pr) (c : Nat) (f : Bool), cs = [.bool i, .slice A l.length c, .bool f] ∧ l.length ≤ c ∧ c ≤ 9223372036854775807 ∧ Tab W W.heap.size A l := by
  obtain ⟨xs, n, rfl, -, hlen, hn, hel⟩ := DataW.trod_struct Tryd.underlying24 hf
  have hc : Tryd.prog.cellsOf 24 = 3 := by kernel_rfl
  have c1 : Tryd.prog.cellsOf 4 = 1 := by kernel_rfl
  have c2 : Tryd.prog.cellsOf 22 = 1 := by kernel_rfl
  rw [hc] at hlen
  have k0 : DataW.trod enc Tryd.prog W base spare held n 4 ((cs.drop 0).take (Tryd.prog.cellsOf 4)) = xs[0]? := hel 0 _ rfl
  have k1 : DataW.trod enc Tryd.prog W base spare held n 22 ((cs.drop 1).take (Tryd.prog.cellsOf 22)) = xs[1]? := hel 1 _ rfl
  have k2 : DataW.trod enc Tryd.prog W base spare held n 4 ((cs.drop 2).take (Tryd.prog.cellsOf 4)) = xs[2]? := hel 2 _ rfl
  rw [c1] at k0 k2
  rw [c2] at k1
  match cs, hlen, k0, k1, k2 with
  | [v0, v1, v2], _, k0, k1, k2 =>
    have hn3 : xs.length = 3 := hn
    rw [List.getElem?_eq_getElem (by omega)] at k0 k1 k2
    obtain ⟨i, e0, -⟩ := DataW.trod_bool Tryd.underlying4 k0
    obtain ⟨A, m1, c, e1⟩ := Go.Joins.slice_form Tryd.underlying22 k1
    obtain ⟨f, e2, -⟩ := DataW.trod_bool Tryd.underlying4 k2
    have f0 : [v0] = [Value.bool i] := e0
    have f1 : [v1] = [Value.slice A m1 c] := e1
    have f2 : [v2] = [Value.bool f] := e2
    have g1 : DataW.trod enc Tryd.prog W base spare held n 22 [v1] = some (xs[1]'(by omega)) := k1
    simp only [List.cons.injEq, and_true] at f0 f1 f2
    subst f0 f1 f2
    obtain ⟨l, rfl, h1, h2, h3⟩ := tab_in g1
    exact ⟨i, A, l, c, f, rfl, h1, h2, h3⟩

theorem bytes_cell {H : Type} {enc : TypeId × Value → H} {W : World} {base fuel : Nat} {spare : Nat → Bool} {held : Bool} {cs : List Value} {y : DataW H × List MemPlace}
    (hf : DataW.trod enc Tryd.prog W base spare held fuel 25 cs = some y) : ∃ (A : Option Addr) (l : List UInt8) (c : Nat), cs = [.slice A l.length c] ∧ l.length ≤ c ∧ c ≤ 9223372036854775807 ∧ Rd W W.heap.size A l := by
  obtain ⟨A, m1, c, e1⟩ := Go.Joins.slice_form Tryd.underlying25 hf
  rw [e1] at hf
  obtain ⟨l, rfl, h1, h2, h3⟩ := bytes_in hf
  exact ⟨A, l, c, e1, h1, h2, h3⟩

theorem open_tells {H : Type} {enc : TypeId × Value → H} {W : World} {b0 : Nat} {held : Bool} {v : Value} {d : DataW H} {p : List MemPlace} {base : Nat}
    (hok : Value.okWide Tryd.prog W .any b0 27 v) (h : DataW.Trod enc Tryd.prog W base (fun _ => true) held 27 v d p) :
    ∃ (i f : Bool) (A : Option Addr) (l : List Pr) (c : Nat) (j g : Bool) (C : Option Addr) (m : List Pr) (d : Nat) (K : Option Addr) (k : List UInt8) (kc : Nat) (B : Option Addr) (b : List UInt8) (bc : Nat) (T : Option Addr) (t : List UInt8) (tc : Nat),
      v = .agg #[.bool i, .slice A l.length c, .bool f, .bool j, .slice C m.length d, .bool g, .slice K k.length kc, .slice B b.length bc, .slice T t.length tc] ∧ l.length ≤ c ∧ c ≤ 9223372036854775807 ∧ Tab W W.heap.size A l ∧ m.length ≤ d ∧ d ≤ 9223372036854775807 ∧ Tab W W.heap.size C m ∧
      k.length ≤ kc ∧ kc ≤ 9223372036854775807 ∧ Rd W W.heap.size K k ∧ b.length ≤ bc ∧ bc ≤ 9223372036854775807 ∧ Rd W W.heap.size B b ∧ t.length ≤ tc ∧ tc ≤ 9223372036854775807 ∧ Rd W W.heap.size T t := by
  obtain ⟨cs, rfl, _⟩ := okWide_struct Tryd.underlying27 hok
  obtain ⟨fuel, hf⟩ := h
  obtain ⟨xs, n, rfl, -, hlen, hn, hel⟩ := DataW.trod_struct Tryd.underlying27 hf
  have hc : Tryd.prog.cellsOf 27 = 9 := by kernel_rfl
  have c1 : Tryd.prog.cellsOf 24 = 3 := by kernel_rfl
  have c2 : Tryd.prog.cellsOf 25 = 1 := by kernel_rfl
  rw [hc] at hlen
  have k0 : DataW.trod enc Tryd.prog W base (fun _ => true) held n 24 ((cs.toList.drop 0).take (Tryd.prog.cellsOf 24)) = xs[0]? := hel 0 _ rfl
  have k1 : DataW.trod enc Tryd.prog W base (fun _ => true) held n 24 ((cs.toList.drop 3).take (Tryd.prog.cellsOf 24)) = xs[1]? := hel 1 _ rfl
  have k2 : DataW.trod enc Tryd.prog W base (fun _ => true) held n 25 ((cs.toList.drop 6).take (Tryd.prog.cellsOf 25)) = xs[2]? := hel 2 _ rfl
  have k3 : DataW.trod enc Tryd.prog W base (fun _ => true) held n 25 ((cs.toList.drop 7).take (Tryd.prog.cellsOf 25)) = xs[3]? := hel 3 _ rfl
  have k4 : DataW.trod enc Tryd.prog W base (fun _ => true) held n 25 ((cs.toList.drop 8).take (Tryd.prog.cellsOf 25)) = xs[4]? := hel 4 _ rfl
  rw [c1] at k0 k1
  rw [c2] at k2 k3 k4
  obtain ⟨l0⟩ := cs
  match l0, hlen, k0, k1, k2, k3, k4 with
  | [v0, v1, v2, v3, v4, v5, v6, v7, v8], _, k0, k1, k2, k3, k4 =>
    have hn3 : xs.length = 5 := hn
    rw [List.getElem?_eq_getElem (by omega)] at k0 k1 k2 k3 k4
    obtain ⟨i, A, l, c, f, e0, r1, r2, r3⟩ := prov_cells k0
    obtain ⟨j, C, m, d, g, e1, s1, s2, s3⟩ := prov_cells k1
    obtain ⟨K, k, kc, e2, t1, t2, t3⟩ := bytes_cell k2
    obtain ⟨B, b, bc, e3, u1, u2, u3⟩ := bytes_cell k3
    obtain ⟨T, t, tc, e4, x1, x2, x3⟩ := bytes_cell k4
    have f0 : [v0, v1, v2] = [Value.bool i, .slice A l.length c, .bool f] := e0
    have f1 : [v3, v4, v5] = [Value.bool j, .slice C m.length d, .bool g] := e1
    have f2 : [v6] = [Value.slice K k.length kc] := e2
    have f3 : [v7] = [Value.slice B b.length bc] := e3
    have f4 : [v8] = [Value.slice T t.length tc] := e4
    simp only [List.cons.injEq, and_true] at f0 f1 f2 f3 f4
    obtain ⟨rfl, rfl, rfl⟩ := f0
    obtain ⟨rfl, rfl, rfl⟩ := f1
    subst f2 f3 f4
    exact ⟨i, f, A, l, c, j, g, C, m, d, K, k, kc, B, b, bc, T, t, tc, rfl, r1, r2, r3, s1, s2, s3, t1, t2, t3, u1, u2, u3, x1, x2, x3⟩

theorem open_once {H : Type} {enc : TypeId × Value → H} {W : World} {b0 : Nat} {held : Bool} {v : Value} {d : DataW H} {p : List MemPlace} {base : Nat}
    (hok : Value.okWide Tryd.prog W .any b0 49 v) (h : DataW.Trod enc Tryd.prog W base (fun _ => true) held 49 v d p) :
    ∃ (i f : Bool) (A : Option Addr) (l : List Pr) (c : Nat) (K : Option Addr) (k : List UInt8) (kc : Nat) (B : Option Addr) (b : List UInt8) (bc : Nat) (T : Option Addr) (t : List UInt8) (tc : Nat),
      v = .agg #[.bool i, .slice A l.length c, .bool f, .slice K k.length kc, .slice B b.length bc, .slice T t.length tc] ∧ l.length ≤ c ∧ c ≤ 9223372036854775807 ∧ Tab W W.heap.size A l ∧
      k.length ≤ kc ∧ kc ≤ 9223372036854775807 ∧ Rd W W.heap.size K k ∧ b.length ≤ bc ∧ bc ≤ 9223372036854775807 ∧ Rd W W.heap.size B b ∧ t.length ≤ tc ∧ tc ≤ 9223372036854775807 ∧ Rd W W.heap.size T t := by
  obtain ⟨cs, rfl, _⟩ := okWide_struct Tryd.underlying49 hok
  obtain ⟨fuel, hf⟩ := h
  obtain ⟨xs, n, rfl, -, hlen, hn, hel⟩ := DataW.trod_struct Tryd.underlying49 hf
  have hc : Tryd.prog.cellsOf 49 = 6 := by kernel_rfl
  have c1 : Tryd.prog.cellsOf 24 = 3 := by kernel_rfl
  have c2 : Tryd.prog.cellsOf 25 = 1 := by kernel_rfl
  rw [hc] at hlen
  have k0 : DataW.trod enc Tryd.prog W base (fun _ => true) held n 24 ((cs.toList.drop 0).take (Tryd.prog.cellsOf 24)) = xs[0]? := hel 0 _ rfl
  have k2 : DataW.trod enc Tryd.prog W base (fun _ => true) held n 25 ((cs.toList.drop 3).take (Tryd.prog.cellsOf 25)) = xs[1]? := hel 1 _ rfl
  have k3 : DataW.trod enc Tryd.prog W base (fun _ => true) held n 25 ((cs.toList.drop 4).take (Tryd.prog.cellsOf 25)) = xs[2]? := hel 2 _ rfl
  have k4 : DataW.trod enc Tryd.prog W base (fun _ => true) held n 25 ((cs.toList.drop 5).take (Tryd.prog.cellsOf 25)) = xs[3]? := hel 3 _ rfl
  rw [c1] at k0
  rw [c2] at k2 k3 k4
  obtain ⟨l0⟩ := cs
  match l0, hlen, k0, k2, k3, k4 with
  | [v0, v1, v2, v6, v7, v8], _, k0, k2, k3, k4 =>
    have hn3 : xs.length = 4 := hn
    rw [List.getElem?_eq_getElem (by omega)] at k0 k2 k3 k4
    obtain ⟨i, A, l, c, f, e0, r1, r2, r3⟩ := prov_cells k0
    obtain ⟨K, k, kc, e2, t1, t2, t3⟩ := bytes_cell k2
    obtain ⟨B, b, bc, e3, u1, u2, u3⟩ := bytes_cell k3
    obtain ⟨T, t, tc, e4, x1, x2, x3⟩ := bytes_cell k4
    have f0 : [v0, v1, v2] = [Value.bool i, .slice A l.length c, .bool f] := e0
    have f2 : [v6] = [Value.slice K k.length kc] := e2
    have f3 : [v7] = [Value.slice B b.length bc] := e3
    have f4 : [v8] = [Value.slice T t.length tc] := e4
    simp only [List.cons.injEq, and_true] at f0 f2 f3 f4
    obtain ⟨rfl, rfl, rfl⟩ := f0
    subst f2 f3 f4
    exact ⟨i, f, A, l, c, K, k, kc, B, b, bc, T, t, tc, rfl, r1, r2, r3, t1, t2, t3, u1, u2, u3, x1, x2, x3⟩

set_option maxRecDepth 100000 in
theorem open_spoilt {H : Type} {enc : TypeId × Value → H} {W : World} {b0 : Nat} {held : Bool} {v : Value} {d : DataW H} {p : List MemPlace} {base : Nat}
    (hok : Value.okWide Tryd.prog W .any b0 52 v) (h : DataW.Trod enc Tryd.prog W base (fun _ => true) held 52 v d p) :
    ∃ (i f : Bool) (A : Option Addr) (l : List Pr) (c : Nat) (K : Option Addr) (k : List UInt8) (kc : Nat) (B : Option Addr) (b : List UInt8) (bc : Nat) (at_ y : UInt8),
      v = .agg #[.bool i, .slice A l.length c, .bool f, .slice K k.length kc, .slice B b.length bc, .int .u8 (at_.toNat : Int), .int .u8 (y.toNat : Int)] ∧ l.length ≤ c ∧ c ≤ 9223372036854775807 ∧ Tab W W.heap.size A l ∧
      k.length ≤ kc ∧ kc ≤ 9223372036854775807 ∧ Rd W W.heap.size K k ∧ b.length ≤ bc ∧ bc ≤ 9223372036854775807 ∧ Rd W W.heap.size B b := by
  obtain ⟨cs, rfl, _⟩ := okWide_struct Tryd.underlying52 hok
  obtain ⟨fuel, hf⟩ := h
  obtain ⟨xs, n, rfl, -, hlen, hn, hel⟩ := DataW.trod_struct Tryd.underlying52 hf
  have hc : Tryd.prog.cellsOf 52 = 7 := by kernel_rfl
  have c1 : Tryd.prog.cellsOf 24 = 3 := by kernel_rfl
  have c2 : Tryd.prog.cellsOf 25 = 1 := by kernel_rfl
  have c3 : Tryd.prog.cellsOf 5 = 1 := by kernel_rfl
  rw [hc] at hlen
  have k0 : DataW.trod enc Tryd.prog W base (fun _ => true) held n 24 ((cs.toList.drop 0).take (Tryd.prog.cellsOf 24)) = xs[0]? := hel 0 _ rfl
  have k2 : DataW.trod enc Tryd.prog W base (fun _ => true) held n 25 ((cs.toList.drop 3).take (Tryd.prog.cellsOf 25)) = xs[1]? := hel 1 _ rfl
  have k3 : DataW.trod enc Tryd.prog W base (fun _ => true) held n 25 ((cs.toList.drop 4).take (Tryd.prog.cellsOf 25)) = xs[2]? := hel 2 _ rfl
  have k4 : DataW.trod enc Tryd.prog W base (fun _ => true) held n 5 ((cs.toList.drop 5).take (Tryd.prog.cellsOf 5)) = xs[3]? := hel 3 _ rfl
  have k5 : DataW.trod enc Tryd.prog W base (fun _ => true) held n 5 ((cs.toList.drop 6).take (Tryd.prog.cellsOf 5)) = xs[4]? := hel 4 _ rfl
  rw [c1] at k0
  rw [c2] at k2 k3
  rw [c3] at k4 k5
  obtain ⟨l0⟩ := cs
  match l0, hlen, k0, k2, k3, k4, k5 with
  | [v0, v1, v2, v6, v7, v8, v9], _, k0, k2, k3, k4, k5 =>
    have hn3 : xs.length = 5 := hn
    rw [List.getElem?_eq_getElem (by omega)] at k0 k2 k3 k4 k5
    obtain ⟨i, A, l, c, f, e0, r1, r2, r3⟩ := prov_cells k0
    obtain ⟨K, k, kc, e2, t1, t2, t3⟩ := bytes_cell k2
    obtain ⟨B, b, bc, e3, u1, u2, u3⟩ := bytes_cell k3
    obtain ⟨z, e4, -, w4⟩ := DataW.trod_int Tryd.underlying5 k4
    obtain ⟨y, e5, -, w5⟩ := DataW.trod_int Tryd.underlying5 k5
    have b4 := u8_bd w4
    have b5 := u8_bd w5
    have f0 : [v0, v1, v2] = [Value.bool i, .slice A l.length c, .bool f] := e0
    have f2 : [v6] = [Value.slice K k.length kc] := e2
    have f3 : [v7] = [Value.slice B b.length bc] := e3
    have f4 : [v8] = [Value.int .u8 z] := e4
    have f5 : [v9] = [Value.int .u8 y] := e5
    simp only [List.cons.injEq, and_true] at f0 f2 f3 f4 f5
    obtain ⟨rfl, rfl, rfl⟩ := f0
    subst f2 f3 f4 f5
    have g4 : ((UInt8.ofNat z.toNat).toNat : Int) = z := by rw [UInt8.toNat_ofNat']; omega
    have g5 : ((UInt8.ofNat y.toNat).toNat : Int) = y := by rw [UInt8.toNat_ofNat']; omega
    refine ⟨i, f, A, l, c, K, k, kc, B, b, bc, UInt8.ofNat z.toNat, UInt8.ofNat y.toNat, ?_, r1, r2, r3, t1, t2, t3, u1, u2, u3⟩
    rw [g4, g5]

set_option maxRecDepth 100000 in
theorem open_order {H : Type} {enc : TypeId × Value → H} {W : World} {b0 : Nat} {held : Bool} {v : Value} {d : DataW H} {p : List MemPlace} {base : Nat}
    (hok : Value.okWide Tryd.prog W .any b0 56 v) (h : DataW.Trod enc Tryd.prog W base (fun _ => true) held 56 v d p) :
    ∃ (A1 : Option Addr) (a1 : List UInt8) (ac1 : Nat) (A2 : Option Addr) (a2 : List UInt8) (ac2 : Nat) (B1 : Option Addr) (b1 : List UInt8) (bc1 : Nat) (B2 : Option Addr) (b2 : List UInt8) (bc2 : Nat) (K : Option Addr) (k : List UInt8) (kc : Nat) (C : Option Addr) (c : List UInt8) (cc : Nat),
      v = .agg #[.slice A1 a1.length ac1, .slice A2 a2.length ac2, .slice B1 b1.length bc1, .slice B2 b2.length bc2, .slice K k.length kc, .slice C c.length cc] ∧ a1.length ≤ ac1 ∧ ac1 ≤ 9223372036854775807 ∧ Rd W W.heap.size A1 a1 ∧ a2.length ≤ ac2 ∧ ac2 ≤ 9223372036854775807 ∧ Rd W W.heap.size A2 a2 ∧
      b1.length ≤ bc1 ∧ bc1 ≤ 9223372036854775807 ∧ Rd W W.heap.size B1 b1 ∧ b2.length ≤ bc2 ∧ bc2 ≤ 9223372036854775807 ∧ Rd W W.heap.size B2 b2 ∧ k.length ≤ kc ∧ kc ≤ 9223372036854775807 ∧ Rd W W.heap.size K k ∧ c.length ≤ cc ∧ cc ≤ 9223372036854775807 ∧ Rd W W.heap.size C c := by
  obtain ⟨cs, rfl, _⟩ := okWide_struct Tryd.underlying56 hok
  obtain ⟨fuel, hf⟩ := h
  obtain ⟨xs, n, rfl, -, hlen, hn, hel⟩ := DataW.trod_struct Tryd.underlying56 hf
  have hc : Tryd.prog.cellsOf 56 = 6 := by kernel_rfl
  have c1 : Tryd.prog.cellsOf 54 = 2 := by kernel_rfl
  have c2 : Tryd.prog.cellsOf 25 = 1 := by kernel_rfl
  rw [hc] at hlen
  have k0 : DataW.trod enc Tryd.prog W base (fun _ => true) held n 54 ((cs.toList.drop 0).take (Tryd.prog.cellsOf 54)) = xs[0]? := hel 0 _ rfl
  have k1 : DataW.trod enc Tryd.prog W base (fun _ => true) held n 54 ((cs.toList.drop 2).take (Tryd.prog.cellsOf 54)) = xs[1]? := hel 1 _ rfl
  have k2 : DataW.trod enc Tryd.prog W base (fun _ => true) held n 25 ((cs.toList.drop 4).take (Tryd.prog.cellsOf 25)) = xs[2]? := hel 2 _ rfl
  have k3 : DataW.trod enc Tryd.prog W base (fun _ => true) held n 25 ((cs.toList.drop 5).take (Tryd.prog.cellsOf 25)) = xs[3]? := hel 3 _ rfl
  rw [c1] at k0 k1
  rw [c2] at k2 k3
  have two : ∀ (l : List Value) (y : DataW H × List MemPlace), DataW.trod enc Tryd.prog W base (fun _ => true) held n 54 l = some y → ∃ (A : Option Addr) (a : List UInt8) (ac : Nat) (B : Option Addr) (b : List UInt8) (bc : Nat), l = [.slice A a.length ac, .slice B b.length bc] ∧ a.length ≤ ac ∧ ac ≤ 9223372036854775807 ∧ Rd W W.heap.size A a ∧ b.length ≤ bc ∧ bc ≤ 9223372036854775807 ∧ Rd W W.heap.size B b := by
    intro l y hy
    obtain ⟨ys, m, rfl, rfl, hylen, hyn, hyel⟩ := DataW.trod_array Tryd.underlying54 hy
    rw [c1] at hylen
    have j0 := hyel 0 (by omega)
    have j1 := hyel 1 (by omega)
    rw [c2] at j0 j1
    match l, hylen, j0, j1 with
    | [u0, u1], _, j0, j1 =>
      rw [List.getElem?_eq_getElem (by omega)] at j0 j1
      obtain ⟨A, a, ac, e0, q1, q2, q3⟩ := bytes_cell j0
      obtain ⟨B, b, bc, e1, r1, r2, r3⟩ := bytes_cell j1
      have f0 : [u0] = [Value.slice A a.length ac] := e0
      have f1 : [u1] = [Value.slice B b.length bc] := e1
      simp only [List.cons.injEq, and_true] at f0 f1
      subst f0 f1
      exact ⟨A, a, ac, B, b, bc, rfl, q1, q2, q3, r1, r2, r3⟩
  obtain ⟨l0⟩ := cs
  match l0, hlen, k0, k1, k2, k3 with
  | [v0, v1, v2, v3, v4, v5], _, k0, k1, k2, k3 =>
    have hn3 : xs.length = 4 := hn
    rw [List.getElem?_eq_getElem (by omega)] at k0 k1 k2 k3
    obtain ⟨A1, a1, ac1, A2, a2, ac2, e0, p1, p2, p3, q1, q2, q3⟩ := two _ _ k0
    obtain ⟨B1, b1, bc1, B2, b2, bc2, e1, r1, r2, r3, s1, s2, s3⟩ := two _ _ k1
    obtain ⟨K, k, kc, e2, t1, t2, t3⟩ := bytes_cell k2
    obtain ⟨C, c, cc, e3, u1, u2, u3⟩ := bytes_cell k3
    have f0 : [v0, v1] = [Value.slice A1 a1.length ac1, .slice A2 a2.length ac2] := e0
    have f1 : [v2, v3] = [Value.slice B1 b1.length bc1, .slice B2 b2.length bc2] := e1
    have f2 : [v4] = [Value.slice K k.length kc] := e2
    have f3 : [v5] = [Value.slice C c.length cc] := e3
    simp only [List.cons.injEq, and_true] at f0 f1 f2 f3
    obtain ⟨rfl, rfl⟩ := f0
    obtain ⟨rfl, rfl⟩ := f1
    subst f2 f3
    exact ⟨A1, a1, ac1, A2, a2, ac2, B1, b1, bc1, B2, b2, bc2, K, k, kc, C, c, cc, rfl, p1, p2, p3, q1, q2, q3, r1, r2, r3, s1, s2, s3, t1, t2, t3, u1, u2, u3⟩
end Go.Proofs.YtcfncbbdlbdbnaaDoor
