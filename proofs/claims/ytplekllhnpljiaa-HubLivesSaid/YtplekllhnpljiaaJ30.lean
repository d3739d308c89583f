
/- A hub that came in by value, opened. -/
import Derived.Test.YtplekllhnpljiaaJ24
import Derived.Test.YtplekllhnpljiaaJ01
import Derived.OpenShut
import Derived.Test.YtplekllhnpljiaaJ28
import Derived.Test.YtplekllhnpljiaaJ03
import Derived.Test.YtplekllhnpljiaaJ29
import Derived.Deep.MidRow
namespace Go.Proofs.Ytplekllhnpljiaa
open Go.ChangeShapes Go.WideShapes Go.ChangeAt Go.RowKit

set_option maxRecDepth 100000 in
theorem trod_struct3y {P : Program} {H : Type} {enc : TypeId × Value → H} {w : World} {base : Nat} {spare : Nat → Bool} {held : Bool} {t : TypeId} {f0 f1 f2 : Field} {fuel : Nat} {cs : List Value} {x : DataW H × List MemPlace} (ht : P.underlying t = some (.struct #[f0, f1, f2])) (h : DataW.trod enc P w base spare held fuel t cs = some x) :
    ∃ y0 y1 y2 n, DataW.trod enc P w base spare held n f0.type ((cs.drop f0.offset).take (P.cellsOf f0.type)) = some y0 ∧ DataW.trod enc P w base spare held n f1.type ((cs.drop f1.offset).take (P.cellsOf f1.type)) = some y1 ∧
      DataW.trod enc P w base spare held n f2.type ((cs.drop f2.offset).take (P.cellsOf f2.type)) = some y2 := by
  obtain ⟨xs, n, _, rfl, hl, hlen, hf⟩ := DataW.trod_struct ht h
  match xs, hlen with
  | [y0, y1, y2], _ => exact ⟨y0, y1, y2, n, by simpa using hf 0 f0 rfl, by simpa using hf 1 f1 rfl, by simpa using hf 2 f2 rfl⟩
set_option maxRecDepth 100000 in
theorem trod_struct4y {P : Program} {H : Type} {enc : TypeId × Value → H} {w : World} {base : Nat} {spare : Nat → Bool} {held : Bool} {t : TypeId} {f0 f1 f2 f3 : Field} {fuel : Nat} {cs : List Value} {x : DataW H × List MemPlace} (ht : P.underlying t = some (.struct #[f0, f1, f2, f3])) (h : DataW.trod enc P w base spare held fuel t cs = some x) :
    ∃ y0 y1 y2 y3 n, DataW.trod enc P w base spare held n f0.type ((cs.drop f0.offset).take (P.cellsOf f0.type)) = some y0 ∧ DataW.trod enc P w base spare held n f1.type ((cs.drop f1.offset).take (P.cellsOf f1.type)) = some y1 ∧
      DataW.trod enc P w base spare held n f2.type ((cs.drop f2.offset).take (P.cellsOf f2.type)) = some y2 ∧ DataW.trod enc P w base spare held n f3.type ((cs.drop f3.offset).take (P.cellsOf f3.type)) = some y3 := by
  obtain ⟨xs, n, _, rfl, hl, hlen, hf⟩ := DataW.trod_struct ht h
  match xs, hlen with
  | [y0, y1, y2, y3], _ => exact ⟨y0, y1, y2, y3, n, by simpa using hf 0 f0 rfl, by simpa using hf 1 f1 rfl, by simpa using hf 2 f2 rfl, by simpa using hf 3 f3 rfl⟩
set_option maxRecDepth 100000 in
theorem trod_array4 {P : Program} {H : Type} {enc : TypeId × Value → H} {w : World} {base : Nat} {spare : Nat → Bool} {held : Bool} {t e : TypeId} {fuel : Nat} {cs : List Value} {x : DataW H × List MemPlace} (ht : P.underlying t = some (.array 4 e)) (h : DataW.trod enc P w base spare held fuel t cs = some x) :
    ∃ y0 y1 y2 y3 n, DataW.trod enc P w base spare held n e ((cs.drop (0 * P.cellsOf e)).take (P.cellsOf e)) = some y0 ∧ DataW.trod enc P w base spare held n e ((cs.drop (1 * P.cellsOf e)).take (P.cellsOf e)) = some y1 ∧
      DataW.trod enc P w base spare held n e ((cs.drop (2 * P.cellsOf e)).take (P.cellsOf e)) = some y2 ∧ DataW.trod enc P w base spare held n e ((cs.drop (3 * P.cellsOf e)).take (P.cellsOf e)) = some y3 := by
  obtain ⟨xs, n, _, rfl, hl, hlen, hf⟩ := DataW.trod_array ht h
  match xs, hlen with
  | [y0, y1, y2, y3], _ => exact ⟨y0, y1, y2, y3, n, by simpa using hf 0 (by decide), by simpa using hf 1 (by decide), by simpa using hf 2 (by decide), by simpa using hf 3 (by decide)⟩
set_option maxRecDepth 100000 in
theorem feed_in {H : Type} {enc : TypeId × Value → H} {W : World} {base fuel : Nat} {held : Bool} {a b c : Value} {y : DataW H × List MemPlace} (hf : DataW.trod enc Try.prog W base (fun _ => true) held fuel 25 [a, b, c] = some y) :
    ∃ (A : Option Addr) (l : List UInt8) (k : Nat) (s d : Int), a = .slice A l.length k ∧ b = .int .i64 s ∧ c = .int .i64 d ∧ B64 s ∧ B64 d ∧ l.length ≤ k ∧ k ≤ 9223372036854775807 ∧ Rd W W.heap.size A l := by
  obtain ⟨y0, y1, y2, n, h0, h1, h2⟩ := trod_struct3y Try.underlying25 hf
  have k1 : Try.prog.cellsOf 3 = 1 := by kernel_rfl
  have k2 : Try.prog.cellsOf 23 = 1 := by kernel_rfl
  have h0' : DataW.trod enc Try.prog W base (fun _ => true) held n 23 [a] = some y0 := by simpa [k2] using h0
  have h1' : DataW.trod enc Try.prog W base (fun _ => true) held n 3 [b] = some y1 := by simpa [k1] using h1
  have h2' : DataW.trod enc Try.prog W base (fun _ => true) held n 3 [c] = some y2 := by simpa [k1] using h2
  obtain ⟨s, e1, -, w1⟩ := DataW.trod_int Try.underlying3 h1'
  obtain ⟨d, e2, -, w2⟩ := DataW.trod_int Try.underlying3 h2'
  obtain ⟨A, m, k, e0⟩ := Go.Joins.slice_form Try.underlying23 h0'
  simp only [List.cons.injEq, and_true] at e0 e1 e2
  subst e0 e1 e2
  obtain ⟨l, rfl, p1, p2, p3⟩ := bytes_in h0'
  exact ⟨A, l, k, s, d, rfl, rfl, rfl, i64_bd w1, i64_bd w2, p1, p2, p3⟩
set_option maxRecDepth 100000 in
theorem bool_in {H : Type} {enc : TypeId × Value → H} {W : World} {base fuel : Nat} {spare : Nat → Bool} {held : Bool} {a : Value} {y : DataW H × List MemPlace} (hf : DataW.trod enc Try.prog W base spare held fuel 4 [a] = some y) : ∃ u, a = .bool u := by
  obtain ⟨u, e, -⟩ := DataW.trod_bool Try.underlying4 hf
  simp only [List.cons.injEq, and_true] at e
  exact ⟨u, e⟩
set_option maxRecDepth 100000 in
theorem int_in {H : Type} {enc : TypeId × Value → H} {W : World} {base fuel : Nat} {spare : Nat → Bool} {held : Bool} {a : Value} {y : DataW H × List MemPlace} (hf : DataW.trod enc Try.prog W base spare held fuel 3 [a] = some y) : ∃ u, a = .int .i64 u ∧ B64 u := by
  obtain ⟨u, e, -, w⟩ := DataW.trod_int Try.underlying3 hf
  simp only [List.cons.injEq, and_true] at e
  exact ⟨u, e, i64_bd w⟩
/-- four things as a function -/
def of4 {α : Type} (a b c d : α) : Nat → α := fun i => if i = 0 then a else if i = 1 then b else if i = 2 then c else d
set_option maxRecDepth 100000 in
theorem hub_cells {H : Type} {enc : TypeId × Value → H} {W : World} {base fuel : Nat} {held : Bool} {v0 v1 v2 v3 v4 v5 v6 v7 v8 v9 v10 v11 v12 v13 v14 v15 v16 v17 v18 v19 v20 : Value} {y : DataW H × List MemPlace}
    (hf : DataW.trod enc Try.prog W base (fun _ => true) held fuel 29 [v0, v1, v2, v3, v4, v5, v6, v7, v8, v9, v10, v11, v12, v13, v14, v15, v16, v17, v18, v19, v20] = some y) :
    ∃ x h, #[v0, v1, v2, v3, v4, v5, v6, v7, v8, v9, v10, v11, v12, v13, v14, v15, v16, v17, v18, v19, v20] = hubC x h ∧ Hb64 h ∧ HubR W x h := by
  obtain ⟨y0, y1, y2, y3, n, h0, h1, h2, h3⟩ := trod_struct4y Try.underlying29 hf
  have k1 : Try.prog.cellsOf 3 = 1 := by kernel_rfl
  have k2 : Try.prog.cellsOf 4 = 1 := by kernel_rfl
  have k3 : Try.prog.cellsOf 25 = 3 := by kernel_rfl
  have k4 : Try.prog.cellsOf 22 = 4 := by kernel_rfl
  have k5 : Try.prog.cellsOf 27 = 4 := by kernel_rfl
  have k6 : Try.prog.cellsOf 26 = 12 := by kernel_rfl
  have h0' : DataW.trod enc Try.prog W base (fun _ => true) held n 22 [v0, v1, v2, v3] = some y0 := by simpa [k4] using h0
  have h1' : DataW.trod enc Try.prog W base (fun _ => true) held n 26 [v4, v5, v6, v7, v8, v9, v10, v11, v12, v13, v14, v15] = some y1 := by simpa [k6] using h1
  have h2' : DataW.trod enc Try.prog W base (fun _ => true) held n 27 [v16, v17, v18, v19] = some y2 := by simpa [k5] using h2
  have h3' : DataW.trod enc Try.prog W base (fun _ => true) held n 3 [v20] = some y3 := by simpa [k1] using h3
  clear h0 h1 h2 h3
  obtain ⟨a0, a1, a2, a3, m1, b0, b1, b2, b3⟩ := trod_array4 Try.underlying22 h0'
  obtain ⟨c0, c1, c2, c3, m2, d0, d1, d2, d3⟩ := trod_array4 Try.underlying26 h1'
  obtain ⟨e0, e1, e2, e3, m3, f0, f1, f2, f3⟩ := trod_array4 Try.underlying27 h2'
  rw [k2] at b0 b1 b2 b3
  rw [k3] at d0 d1 d2 d3
  rw [k1] at f0 f1 f2 f3
  obtain ⟨u0, rfl⟩ := bool_in (a := v0) b0
  obtain ⟨u1, rfl⟩ := bool_in (a := v1) b1
  obtain ⟨u2, rfl⟩ := bool_in (a := v2) b2
  obtain ⟨u3, rfl⟩ := bool_in (a := v3) b3
  obtain ⟨A0, l0, n0, s0, g0, rfl, rfl, rfl, p0, q0, r0, t0, z0⟩ := feed_in (a := v4) (b := v5) (c := v6) d0
  obtain ⟨A1, l1, n1, s1, g1, rfl, rfl, rfl, p1, q1, r1, t1, z1⟩ := feed_in (a := v7) (b := v8) (c := v9) d1
  obtain ⟨A2, l2, n2, s2, g2, rfl, rfl, rfl, p2, q2, r2, t2, z2⟩ := feed_in (a := v10) (b := v11) (c := v12) d2
  obtain ⟨A3, l3, n3, s3, g3, rfl, rfl, rfl, p3, q3, r3, t3, z3⟩ := feed_in (a := v13) (b := v14) (c := v15) d3
  obtain ⟨i0, rfl, j0⟩ := int_in (a := v16) f0
  obtain ⟨i1, rfl, j1⟩ := int_in (a := v17) f1
  obtain ⟨i2, rfl, j2⟩ := int_in (a := v18) f2
  obtain ⟨i3, rfl, j3⟩ := int_in (a := v19) f3
  obtain ⟨nx, rfl, jn⟩ := int_in (a := v20) h3'
  refine ⟨of4 (A0, n0) (A1, n1) (A2, n2) (A3, n3), ⟨of4 u0 u1 u2 u3, of4 ⟨l0, s0, g0⟩ ⟨l1, s1, g1⟩ ⟨l2, s2, g2⟩ ⟨l3, s3, g3⟩, of4 i0 i1 i2 i3, nx⟩, rfl, ⟨fun i hi => ?_, jn⟩, fun i hi => ?_⟩
  · rcases lt4 hi with rfl | rfl | rfl | rfl
    · exact ⟨p0, q0, j0⟩
    · exact ⟨p1, q1, j1⟩
    · exact ⟨p2, q2, j2⟩
    · exact ⟨p3, q3, j3⟩
  · rcases lt4 hi with rfl | rfl | rfl | rfl
    · exact ⟨r0, t0, z0⟩
    · exact ⟨r1, t1, z1⟩
    · exact ⟨r2, t2, z2⟩
    · exact ⟨r3, t3, z3⟩
set_option maxRecDepth 100000 in
theorem array21 {α : Type} {cs : Array α} (h : cs.size = 21) : ∃ v0 v1 v2 v3 v4 v5 v6 v7 v8 v9 v10 v11 v12 v13 v14 v15 v16 v17 v18 v19 v20, cs = #[v0, v1, v2, v3, v4, v5, v6, v7, v8, v9, v10, v11, v12, v13, v14, v15, v16, v17, v18, v19, v20] := by
  obtain ⟨l⟩ := cs
  match l, h with
  | [v0, v1, v2, v3, v4, v5, v6, v7, v8, v9, v10, v11, v12, v13, v14, v15, v16, v17, v18, v19, v20], _ => exact ⟨v0, v1, v2, v3, v4, v5, v6, v7, v8, v9, v10, v11, v12, v13, v14, v15, v16, v17, v18, v19, v20, rfl⟩
set_option maxRecDepth 100000 in
theorem array24 {α : Type} {cs : Array α} (h : cs.size = 24) : ∃ v0 v1 v2 v3 v4 v5 v6 v7 v8 v9 v10 v11 v12 v13 v14 v15 v16 v17 v18 v19 v20 w0 w1 w2, cs = #[v0, v1, v2, v3, v4, v5, v6, v7, v8, v9, v10, v11, v12, v13, v14, v15, v16, v17, v18, v19, v20, w0, w1, w2] := by
  obtain ⟨l⟩ := cs
  match l, h with
  | [v0, v1, v2, v3, v4, v5, v6, v7, v8, v9, v10, v11, v12, v13, v14, v15, v16, v17, v18, v19, v20, w0, w1, w2], _ => exact ⟨v0, v1, v2, v3, v4, v5, v6, v7, v8, v9, v10, v11, v12, v13, v14, v15, v16, v17, v18, v19, v20, w0, w1, w2, rfl⟩
set_option maxRecDepth 100000 in
theorem hub_in {H : Type} {enc : TypeId × Value → H} {W : World} {base : Nat} {held : Bool} {b0 : Nat} {v : Value} {d : DataW H} {p : List MemPlace} (hv : Value.okWide Try.prog W .any b0 29 v) (h : DataW.Trod enc Try.prog W base (fun _ => true) held 29 v d p) :
    ∃ x h, v = .agg (hubC x h) ∧ Hb64 h ∧ HubR W x h := by
  obtain ⟨cs, rfl, hsz⟩ := okWide_struct Try.underlying29 hv
  obtain ⟨v0, v1, v2, v3, v4, v5, v6, v7, v8, v9, v10, v11, v12, v13, v14, v15, v16, v17, v18, v19, v20, rfl⟩ := array21 (hsz.trans (by kernel_rfl))
  obtain ⟨fuel, hf⟩ := h
  obtain ⟨x, h, e, h1, h2⟩ := hub_cells hf
  exact ⟨x, h, by rw [e], h1, h2⟩
/-- a hub with three things behind it -/
def hubCw (x : Wh) (h : Hb) (a b c : Value) : Array Value := hubC x h ++ #[a, b, c]
set_option maxRecDepth 100000 in
theorem hubApart_in {H : Type} {enc : TypeId × Value → H} {W : World} {base : Nat} {held : Bool} {b0 : Nat} {v : Value} {d : DataW H} {p : List MemPlace} (hv : Value.okWide Try.prog W .any b0 51 v) (h : DataW.Trod enc Try.prog W base (fun _ => true) held 51 v d p) :
    ∃ x h, ∃ (c : Int) (B : Option Addr) (l : List UInt8) (k : Nat) (o : Int), v = .agg (hubCw x h (.int .i64 c) (.slice B l.length k) (.int .u8 o)) ∧ Hb64 h ∧ HubR W x h ∧ B64 c ∧ l.length ≤ k ∧ k ≤ 9223372036854775807 ∧ Rd W W.heap.size B l ∧ (0 ≤ o ∧ o ≤ 255) := by
  obtain ⟨cs, rfl, hsz⟩ := okWide_struct Try.underlying51 hv
  obtain ⟨v0, v1, v2, v3, v4, v5, v6, v7, v8, v9, v10, v11, v12, v13, v14, v15, v16, v17, v18, v19, v20, w0, w1, w2, rfl⟩ := array24 (hsz.trans (by kernel_rfl))
  obtain ⟨fuel, hf⟩ := h
  obtain ⟨y0, y1, y2, y3, n, h0, h1, h2, h3⟩ := trod_struct4y Try.underlying51 hf
  have k1 : Try.prog.cellsOf 3 = 1 := by kernel_rfl
  have k2 : Try.prog.cellsOf 23 = 1 := by kernel_rfl
  have k3 : Try.prog.cellsOf 5 = 1 := by kernel_rfl
  have k4 : Try.prog.cellsOf 29 = 21 := by kernel_rfl
  have h0' : DataW.trod enc Try.prog W base (fun _ => true) held n 29 [v0, v1, v2, v3, v4, v5, v6, v7, v8, v9, v10, v11, v12, v13, v14, v15, v16, v17, v18, v19, v20] = some y0 := by simpa [Value.cells, k4] using h0
  have h1' : DataW.trod enc Try.prog W base (fun _ => true) held n 3 [w0] = some y1 := by simpa [Value.cells, k1] using h1
  have h2' : DataW.trod enc Try.prog W base (fun _ => true) held n 23 [w1] = some y2 := by simpa [Value.cells, k2] using h2
  have h3' : DataW.trod enc Try.prog W base (fun _ => true) held n 5 [w2] = some y3 := by simpa [Value.cells, k3] using h3
  clear h0 h1 h2 h3 hf hv hsz
  obtain ⟨x, h, e, p1, p2⟩ := hub_cells h0'
  obtain ⟨c, rfl, p3⟩ := int_in h1'
  obtain ⟨o, e2, -, w2⟩ := DataW.trod_int Try.underlying5 h3'
  obtain ⟨B, m, k, e1⟩ := Go.Joins.slice_form Try.underlying23 h2'
  simp only [List.cons.injEq, and_true] at e1 e2
  subst e1 e2
  obtain ⟨l, rfl, q1, q2, q3⟩ := bytes_in h2'
  exact ⟨x, h, c, B, l, k, o, by unfold hubCw; rw [← e]; rfl, p1, p2, p3, q1, q2, q3, u8_bd w2⟩
set_option maxRecDepth 100000 in
theorem hubLives_in {H : Type} {enc : TypeId × Value → H} {W : World} {base : Nat} {held : Bool} {b0 : Nat} {v : Value} {d : DataW H} {p : List MemPlace} (hv : Value.okWide Try.prog W .any b0 55 v) (h : DataW.Trod enc Try.prog W base (fun _ => true) held 55 v d p) :
    ∃ x h, ∃ (o : Int) (A : Option Addr) (a : List UInt8) (j : Nat) (B : Option Addr) (l : List UInt8) (k : Nat), v = .agg (hubCw x h (.int .u8 o) (.slice A a.length j) (.slice B l.length k)) ∧ Hb64 h ∧ HubR W x h ∧ (0 ≤ o ∧ o ≤ 255) ∧ a.length ≤ j ∧ j ≤ 9223372036854775807 ∧ Rd W W.heap.size A a ∧ l.length ≤ k ∧ k ≤ 9223372036854775807 ∧ Rd W W.heap.size B l := by
  obtain ⟨cs, rfl, hsz⟩ := okWide_struct Try.underlying55 hv
  obtain ⟨v0, v1, v2, v3, v4, v5, v6, v7, v8, v9, v10, v11, v12, v13, v14, v15, v16, v17, v18, v19, v20, w0, w1, w2, rfl⟩ := array24 (hsz.trans (by kernel_rfl))
  obtain ⟨fuel, hf⟩ := h
  obtain ⟨y0, y1, y2, y3, n, h0, h1, h2, h3⟩ := trod_struct4y Try.underlying55 hf
  have k2 : Try.prog.cellsOf 23 = 1 := by kernel_rfl
  have k3 : Try.prog.cellsOf 5 = 1 := by kernel_rfl
  have k4 : Try.prog.cellsOf 29 = 21 := by kernel_rfl
  have h0' : DataW.trod enc Try.prog W base (fun _ => true) held n 29 [v0, v1, v2, v3, v4, v5, v6, v7, v8, v9, v10, v11, v12, v13, v14, v15, v16, v17, v18, v19, v20] = some y0 := by simpa [Value.cells, k4] using h0
  have h1' : DataW.trod enc Try.prog W base (fun _ => true) held n 5 [w0] = some y1 := by simpa [Value.cells, k3] using h1
  have h2' : DataW.trod enc Try.prog W base (fun _ => true) held n 23 [w1] = some y2 := by simpa [Value.cells, k2] using h2
  have h3' : DataW.trod enc Try.prog W base (fun _ => true) held n 23 [w2] = some y3 := by simpa [Value.cells, k2] using h3
  clear h0 h1 h2 h3 hf hv hsz
  obtain ⟨x, h, e, p1, p2⟩ := hub_cells h0'
  obtain ⟨o, e0, -, w0⟩ := DataW.trod_int Try.underlying5 h1'
  obtain ⟨A, m, j, e1⟩ := Go.Joins.slice_form Try.underlying23 h2'
  obtain ⟨B, m2, k, e2⟩ := Go.Joins.slice_form Try.underlying23 h3'
  simp only [List.cons.injEq, and_true] at e0 e1 e2
  subst e0 e1 e2
  obtain ⟨a, rfl, q1, q2, q3⟩ := bytes_in h2'
  obtain ⟨l, rfl, r1, r2, r3⟩ := bytes_in h3'
  exact ⟨x, h, o, A, a, j, B, l, k, by unfold hubCw; rw [← e]; rfl, p1, p2, u8_bd w0, q1, q2, q3, r1, r2, r3⟩
end Go.Proofs.Ytplekllhnpljiaa
/- Picks, one behind the other: each connection that is up is picked once, and then again, in the same order. Plain. -/

namespace Go.Proofs.Ytplekllhnpljiaa
open Go.RowKit

/-- where pick i begins, and what it picks -/
def nxH (u : Nat → Bool) (n : Nat) : Nat → Nat
  | 0 => n
  | i + 1 => (pkF u 4 (nxH u n i) + 1) % 4
def pkH (u : Nat → Bool) (n i : Nat) : Nat := pkF u 4 (nxH u n i)
/-- how many of the first k are up -/
def cntH (u : Nat → Bool) : Nat → Nat
  | 0 => 0
  | k + 1 => cntH u k + (if u k = true then 1 else 0)
def fairB (u : Nat → Bool) (n : Nat) : Bool :=
  (List.range 4).all fun i => !decide (i < cntH u 4) || (((List.range 4).all fun j => !decide (j < i) || !(pkH u n j == pkH u n i)) && pkH u n (i + cntH u 4) == pkH u n i)
set_option maxRecDepth 100000 in
theorem fair_all : ∀ u0 u1 u2 u3 : Bool, ∀ n : Fin 4, fairB (of4 u0 u1 u2 u3) n = true := by decide +kernel
set_option maxRecDepth 100000 in
theorem pkF_ext {u v : Nat → Bool} (h : ∀ i, i < 4 → u i = v i) : ∀ (f n : Nat), n < 4 → pkF u f n = pkF v f n
  | 0, _, _ => rfl
  | f + 1, n, hn => by
    unfold pkF
    rw [h n hn, pkF_ext h f _ (Nat.mod_lt _ (by decide))]
set_option maxRecDepth 100000 in
theorem of4_ext (u : Nat → Bool) : ∀ i, i < 4 → u i = of4 (u 0) (u 1) (u 2) (u 3) i := fun i hi => by rcases lt4 hi with rfl | rfl | rfl | rfl <;> rfl
set_option maxRecDepth 100000 in
theorem nxH_lt {u : Nat → Bool} {n : Nat} (hn : n < 4) : ∀ i, nxH u n i < 4
  | 0 => hn
  | _ + 1 => Nat.mod_lt _ (by decide)
set_option maxRecDepth 100000 in
theorem nxH_ext {u v : Nat → Bool} (h : ∀ i, i < 4 → u i = v i) {n : Nat} (hn : n < 4) : ∀ i, nxH u n i = nxH v n i
  | 0 => rfl
  | i + 1 => by
    show (pkF u 4 (nxH u n i) + 1) % 4 = (pkF v 4 (nxH v n i) + 1) % 4
    rw [nxH_ext h hn i, pkF_ext h 4 _ (nxH_lt hn i)]
set_option maxRecDepth 100000 in
theorem pkH_ext {u v : Nat → Bool} (h : ∀ i, i < 4 → u i = v i) {n : Nat} (hn : n < 4) (i : Nat) : pkH u n i = pkH v n i := by
  unfold pkH
  rw [nxH_ext h hn i, pkF_ext h 4 _ (nxH_lt hn i)]
set_option maxRecDepth 100000 in
theorem cntH_ext {u v : Nat → Bool} (h : ∀ i, i < 4 → u i = v i) : ∀ k, k ≤ 4 → cntH u k = cntH v k
  | 0, _ => rfl
  | k + 1, hk => by
    show cntH u k + _ = cntH v k + _
    rw [cntH_ext h k (by omega), h k (by omega)]
set_option maxRecDepth 100000 in
theorem cntH_le (u : Nat → Bool) : ∀ k, cntH u k ≤ k
  | 0 => Nat.le_refl _
  | k + 1 => by
    show cntH u k + (if u k = true then 1 else 0) ≤ k + 1
    have := cntH_le u k
    split <;> omega
set_option maxRecDepth 100000 in
theorem fairB_ext (u : Nat → Bool) {n : Nat} (hn : n < 4) : fairB u n = true := by
  have h := fair_all (u 0) (u 1) (u 2) (u 3) ⟨n, hn⟩
  have e1 := fun i => pkH_ext (of4_ext u) hn i
  have e2 := cntH_ext (of4_ext u) 4 (Nat.le_refl 4)
  unfold fairB at h ⊢
  simp only [e1, e2]
  exact h
set_option maxRecDepth 100000 in
theorem fair_1 (u : Nat → Bool) {n i j : Nat} (hn : n < 4) (hi : i < cntH u 4) (hj : j < i) : pkH u n j ≠ pkH u n i := by
  have h := fairB_ext u hn
  have hc := cntH_le u 4
  unfold fairB at h
  have h1 := List.all_eq_true.1 h i (List.mem_range.2 (by omega))
  rw [decide_eq_true hi, Bool.not_true, Bool.false_or, Bool.and_eq_true] at h1
  have h2 := List.all_eq_true.1 h1.1 j (List.mem_range.2 (by omega))
  rw [decide_eq_true hj, Bool.not_true, Bool.false_or] at h2
  intro e
  rw [e] at h2
  simp at h2
set_option maxRecDepth 100000 in
theorem fair_2 (u : Nat → Bool) {n i : Nat} (hn : n < 4) (hi : i < cntH u 4) : pkH u n (i + cntH u 4) = pkH u n i := by
  have h := fairB_ext u hn
  have hc := cntH_le u 4
  unfold fairB at h
  have h1 := List.all_eq_true.1 h i (List.mem_range.2 (by omega))
  rw [decide_eq_true hi, Bool.not_true, Bool.false_or, Bool.and_eq_true] at h1
  simpa using h1.2
set_option maxRecDepth 100000 in
theorem cntH_any (h : Hb) : 0 < cntH h.up 4 ↔ anyH h = true := by
  unfold anyH cntH cntH cntH cntH cntH
  cases h.up 0 <;> cases h.up 1 <;> cases h.up 2 <;> cases h.up 3 <;> simp
/-- the hub behind i picks -/
def hubI (h : Hb) (i : Nat) : Hb := { h with next := ((nxH h.up h.next.toNat i : Nat) : Int) }
set_option maxRecDepth 100000 in
theorem hubI_0 {h : Hb} (hn : 0 ≤ h.next ∧ h.next < 4) : hubI h 0 = h := by
  unfold hubI nxH
  cases h
  simp only [Hb.mk.injEq, true_and]
  show ((Int.toNat _ : Nat) : Int) = _
  simp only at hn
  omega
set_option maxRecDepth 100000 in
theorem hubI_pick {h : Hb} (ha : anyH h = true) (i : Nat) : pickR (hubI h i) = (hubI h (i + 1), ((pkH h.up h.next.toNat i : Nat) : Int), 0) := by
  unfold pickR
  rw [if_pos (by exact ha)]
  rfl
set_option maxRecDepth 100000 in
theorem hubI_right {h : Hb} (k : RightHb h) (i : Nat) : RightHb (hubI h i) := ⟨k.1, by
  have h1 := nxH_lt (u := h.up) (n := h.next.toNat) (by have := k.2; omega) i
  show 0 ≤ ((nxH h.up h.next.toNat i : Nat) : Int) ∧ ((nxH h.up h.next.toNat i : Nat) : Int) < 4
  omega⟩
set_option maxRecDepth 100000 in
theorem hubI_64 {h : Hb} (k : Hb64 h) (kr : RightHb h) (i : Nat) : Hb64 (hubI h i) := ⟨k.1, by
  have h1 := nxH_lt (u := h.up) (n := h.next.toNat) (by have := kr.2; omega) i
  show B64 ((nxH h.up h.next.toNat i : Nat) : Int)
  unfold B64
  omega⟩
set_option maxRecDepth 100000 in
theorem pkH_up {h : Hb} (ha : anyH h = true) (kr : RightHb h) (i : Nat) : pkH h.up h.next.toNat i < 4 ∧ h.up (pkH h.up h.next.toNat i) = true := by
  have h1 := nxH_lt (u := h.up) (n := h.next.toNat) (by have := kr.2; omega) i
  exact pkF_up h.up 4 _ h1 (any_some ha h1)
end Go.Proofs.Ytplekllhnpljiaa
/- The call's own numbers ([]int that is appended to): no byte lies in its block, so bytes stay. -/

namespace Go.Proofs.Ytplekllhnpljiaa
open Go.RowKit

/-- v is the call's own slice of numbers (from block base on): its cells are us, and none of its block is a byte -/
def OwN (w : World) (base : Nat) (v : Value) (us : List Value) : Prop :=
  (v = .slice none 0 0 ∧ us = []) ∨ ∃ g cap cur, v = .slice (some ⟨g, 0, none⟩) us.length cap ∧ base ≤ g ∧ w.heap[g]? = some (.cells cur 3 (0, 0)) ∧ us.length ≤ cap ∧ cap ≤ maxLen ∧ cur.size = cap * 1 ∧ cur.toList.take (us.length * 1) = us ∧ (∀ x ∈ cur.toList, NoB x = true)
set_option maxRecDepth 100000 in
theorem OwN.nil {w : World} {base : Nat} : OwN w base (.slice none 0 0) [] := .inl ⟨rfl, rfl⟩
set_option maxRecDepth 100000 in
theorem OwN.made0 (w : World) {base : Nat} (hb : base ≤ w.heap.size) : OwN (w.alloc (.cells #[] 3)) base (.slice (some ⟨w.heap.size, 0, none⟩) 0 0) [] :=
  .inr ⟨w.heap.size, 0, #[], rfl, hb, heap_alloc_new w _, Nat.le_refl _, by simp [maxLen], rfl, rfl, by simp⟩
set_option maxRecDepth 100000 in
theorem OwN.owns {w : World} {base : Nat} {v : Value} {us : List Value} (h : OwN w base v us) : w.ownsRow base 3 1 v us.length us := by
  rcases h with ⟨rfl, rfl⟩ | ⟨g, cap, cur, rfl, h1, h2, h3, h4, h5, h6, -⟩
  · exact World.ownsRow_nil _ _ _ _
  · exact ⟨by simp, .inr ⟨g, cap, cur, rfl, h1, h2, h3, h4, h5, h6⟩⟩
set_option maxRecDepth 100000 in
theorem OwN.alloc {w : World} {base : Nat} {v : Value} {us : List Value} (h : OwN w base v us) (o : Obj) : OwN (w.alloc o) base v us := by
  rcases h with h | ⟨g, cap, cur, h0, h1, h2, h3⟩
  · exact .inl h
  · exact .inr ⟨g, cap, cur, h0, h1, (heap_alloc_old w o (Array.getElem?_eq_some_iff.1 h2).1).trans h2, h3⟩
set_option maxRecDepth 100000 in
theorem OwN.call {w w' : World} {base : Nat} {v : Value} {us : List Value} (h : OwN w base v us) (hb : Below w.heap.size w w') : OwN w' base v us := by
  rcases h with h | ⟨g, cap, cur, h0, h1, h2, h3⟩
  · exact .inl h
  · exact .inr ⟨g, cap, cur, h0, h1, oldG h2 hb (Nat.le_refl _), h3⟩
set_option maxRecDepth 100000 in
theorem OwN.form {w : World} {base : Nat} {v : Value} {us : List Value} (h : OwN w base v us) : ∃ A c, v = .slice A us.length c ∧ us.length ≤ c ∧ c ≤ 9223372036854775807 := by
  rcases h with ⟨rfl, rfl⟩ | ⟨g, cap, cur, rfl, h1, h2, h3, h4, h5, h6, -⟩
  · exact ⟨none, 0, rfl, by simp, by omega⟩
  · exact ⟨_, cap, rfl, h3, by simpa [maxLen] using h4⟩
set_option maxRecDepth 100000 in
theorem OwN.below {w0 w w' : World} {base : Nat} {v : Value} {us : List Value} (h : OwN w base v us) (hb : Below base w0 w) (hg : w.grownBy w' v.ownBlock) (hB : base ≤ w.heap.size) : Below base w0 w' :=
  hb.grown hg hB (fun k hk => (World.ownsRow.lt h.owns k hk).1)
set_option maxRecDepth 100000 in
theorem Rd.grownN {w w' : World} {base : Nat} {A : Option Addr} {l : List UInt8} {v : Value} {us : List Value} (h : Rd w w.heap.size A l) (ho : OwN w base v us) (hg : w.grownBy w' v.ownBlock) : Rd w' w'.heap.size A l := by
  intro h0
  obtain ⟨b, o, rfl, hb, hc⟩ := h h0
  have hk : some b ≠ v.ownBlock := by
    rcases ho with ⟨rfl, _⟩ | ⟨g, cap, cur, rfl, h1, h2, h3, h4, h5, h6, h7⟩
    · simp [Value.ownBlock]
    · have := Rd.notF (w := w) (B := w.heap.size) (A := some ⟨b, o, none⟩) (l := l) (fun _ => ⟨b, o, rfl, hb, hc⟩) h2 h7 h0 ⟨b, o, none⟩ rfl
      simp only [Value.ownBlock]
      exact fun e => this (Option.some.inj e)
  have hblk := hg.block b hb hk
  have hsz := hg.size
  exact ⟨b, o, rfl, by omega, fun j hj => by rw [World.cell?_of_block (w := w) (a := ⟨b, o + j, none⟩) hblk]; exact hc j hj⟩
set_option maxRecDepth 100000 in
theorem infoN : (Try.prog.info? 3).map (fun i => (i.zero, i.size, i.bytes)) = some (some (.int .i64 0), 1, 8) := by kernel_rfl
set_option maxRecDepth 100000 in
/-- append of numbers -/
theorem run_appN (ty : TypeId) (w : World) (base : Nat) (v : Value) (us : List Value) (h : OwN w base v us) (ad : Addr) (m c : Nat) (news : List Value) (hm : news.length = m)
    (hnews : ∀ j u, news[j]? = some u → w.cell? (ad.add j) = some u) (hsl : ∀ u ∈ news, ∃ z, u = .int .i64 z) (h0 : 0 < m) (hlen : us.length + m ≤ 1000000) (hbase : base ≤ w.heap.size) :
    ∃ v' w', (Builtin.append_ #[49, 49] ty #[v, .slice (some ad) m c]).run Try.prog w = .ok v' w' ∧ OwN w' base v' (us ++ news) ∧ w.grownBy w' v.ownBlock := by
  subst hm
  obtain ⟨i0, hi, hz0, hz1, hz2⟩ := info_parts infoN
  have hone : ∀ u ∈ news, u.oneCell' = true := fun u hu => by
    obtain ⟨z, rfl⟩ := hsl u hu
    rfl
  have hnob : ∀ u ∈ news, NoB u = true := fun u hu => by
    obtain ⟨z, rfl⟩ := hsl u hu
    rfl
  have hzb : ∀ q, ∀ u ∈ (Builtin.zeroCells (Value.int .i64 0).cells q).toList, NoB u = true := by
    intro q u hu
    simp [Builtin.zeroCells, Value.cells] at hu
    obtain ⟨j, hj, rfl⟩ := hu
    simp [Nat.mod_one, NoB]
  have hlen2 : (us ++ news).length = us.length + news.length := by simp
  have grown : ∀ old, old < us.length + news.length → (∀ u ∈ us, NoB u = true) →
      OwN (w.drew.alloc (.cells (us.toArray ++ news.toArray ++ Builtin.zeroCells (Value.int .i64 0).cells (grownCap w (us.length + news.length) old 3 - (us.length + news.length))) 3)) base
        (.slice (some ⟨w.heap.size, 0, none⟩) (us.length + news.length) (grownCap w (us.length + news.length) old 3)) (us ++ news) := by
    intro old ho hnb
    have hge := grownCap_ge w (us.length + news.length) old 3
    have hcm : grownCap w (us.length + news.length) old 3 ≤ maxLen := grownCap_le_maxLen w (us.length + news.length) old 3 (by unfold maxLen; omega)
    have hzc : (Value.int .i64 0).cells.size = 1 := rfl
    refine .inr ⟨w.heap.size, _, _, by rw [hlen2], hbase, heap_alloc_new w.drew _, by rw [hlen2]; exact hge, hcm, ?_, ?_, ?_⟩
    · simp only [Array.size_append, List.size_toArray, size_zeroCells, hzc]
      omega
    · simp only [Array.toList_append]
      rw [Nat.mul_one]
      exact List.take_left
    · intro u hu
      simp only [Array.toList_append, List.mem_append] at hu
      rcases hu with (hu | hu) | hu
      · exact hnb u hu
      · exact hnob u hu
      · exact hzb _ u hu
  rcases h with ⟨rfl, rfl⟩ | ⟨g, cap, cur, rfl, hbg, hg, hnc, hcm, hcs, htake, hnb⟩
  · have hr := run_append_nil (P := Try.prog) w 49 ty 3 i0 (.int .i64 0) Try.underlying49 hi hz0 ad news.length c news (by rw [hz1, Nat.mul_one]) hnews h0 (by omega) (by rw [hz2]; simp at hlen; omega)
    have hgr := grown 0 (by simpa using h0) (by simp)
    simp only [List.length_nil, Nat.zero_add, List.nil_append] at hgr ⊢
    refine ⟨_, _, hr, ?_, ⟨rfl, rfl, rfl, by simp, fun k hk _ => heap_alloc_old w.drew _ hk⟩⟩
    simpa using hgr
  · have hnbu : ∀ u ∈ us, NoB u = true := fun u hu => hnb u (by rw [← htake] at hu; exact List.mem_of_mem_take hu)
    by_cases hroom : us.length + news.length ≤ cap
    · have hr := run_append_room (P := Try.prog) w 49 ty 3 i0 Try.underlying49 hi g us.length cap cur hg ad news.length c news (by rw [hz1, Nat.mul_one]) hnews hone hroom (by rw [hz1, hcs]; omega)
      refine ⟨_, _, hr, .inr ⟨g, cap, _, by rw [hlen2], hbg, setRow_heap w g cur _ _ _ hg, by rw [hlen2]; exact hroom, hcm, ?_, ?_, ?_⟩, ⟨rfl, rfl, rfl, by simp, fun k _ hk => setRow_other w g k _ (fun e => hk (by simp [Value.ownBlock, e]))⟩⟩
      · simp only [List.size_toArray, List.length_append, List.length_take, List.length_drop, Array.length_toList]
        rw [hz1]
        omega
      · rw [hz1, htake, Nat.mul_one]
        exact List.take_left
      · intro u hu
        simp only [List.mem_append] at hu
        rcases hu with (hu | hu) | hu
        · exact hnb u (List.mem_of_mem_take hu)
        · exact hnob u hu
        · exact hnb u (List.mem_of_mem_drop hu)
    · have hx : w.ownsRow base 3 1 (.slice (some ⟨g, 0, none⟩) us.length cap) us.length us := ⟨by simp, .inr ⟨g, cap, cur, rfl, hbg, hg, hnc, hcm, hcs, htake⟩⟩
      have holds : ∀ j u, us[j]? = some u → w.cell? ((⟨g, 0, none⟩ : Addr).add j) = some u := hx.cells (g := g) rfl
      have hr := run_append_grow (P := Try.prog) w 49 ty 3 i0 (.int .i64 0) Try.underlying49 hi hz0 ⟨g, 0, none⟩ us.length cap us (by rw [hz1, Nat.mul_one]) holds ad news.length c news (by rw [hz1, Nat.mul_one]) hnews (by omega) (by omega) (by rw [hz2]; exact growslice_fits (by omega) (by omega))
      exact ⟨_, _, hr, grown cap (by omega) hnbu, ⟨rfl, rfl, rfl, by simp, fun k hk _ => heap_alloc_old w.drew _ hk⟩⟩
set_option maxRecDepth 100000 in
theorem wpList_appN {ops : Array Oper} {rest : List Oper} {o : Oper} {a : Act} {Q : Exit → Act → World → Prop} (w : World) (hw : Region.wanted o (yielded ops a.tmps) = true) (s x : Operand)
    (ho : o.op = .call { callee := .builtin .append, args := #[s, x], argTypes := #[49, 49] })
    (base : Nat) (v : Value) (us : List Value) (hs : a.eval s = v) (h : OwN w base v us) (ad : Addr) (m c : Nat) (hx : a.eval x = .slice (some ad) m c) (news : List Value) (hm : news.length = m)
    (hnews : ∀ j u, news[j]? = some u → w.cell? (ad.add j) = some u) (hsl : ∀ u ∈ news, ∃ z, u = .int .i64 z) (h0 : 0 < m) (hlen : us.length + m ≤ 1000000) (hbase : base ≤ w.heap.size)
    (hK : ∀ v' w', OwN w' base v' (us ++ news) → w.grownBy w' v.ownBlock → wpList Try.prog ops Q rest (a.put o.dst v') w') : wpList Try.prog ops Q (o :: rest) a w := by
  obtain ⟨v', w', hr, h2, h3⟩ := run_appN o.type w base v us h ad m c news hm hnews hsl h0 hlen hbase
  refine BigFrame.wpList_want hw fun _ hK' => ?_
  unfold Oper.wp execOp
  simp only [ho, resolve, invoke, builtin, Sem.run_bind, Sem.run_pure, Result.andThen_ok, List.map_toArray, List.map_cons, List.map_nil, hs, hx, hr]
  exact hK' _ _ (hK v' w' h2 h3)
end Go.Proofs.Ytplekllhnpljiaa
/- A hub with three things behind it, in one box: its parts. -/

namespace Go.Proofs.Ytplekllhnpljiaa
open Go.RowKit

set_option maxRecDepth 100000 in
theorem hubCw_a (x : Wh) (h : Hb) (a b c : Value) : (hubCw x h a b c)[21]? = some a := rfl
set_option maxRecDepth 100000 in
theorem hubCw_b (x : Wh) (h : Hb) (a b c : Value) : (hubCw x h a b c)[22]? = some b := rfl
set_option maxRecDepth 100000 in
theorem hubCw_c (x : Wh) (h : Hb) (a b c : Value) : (hubCw x h a b c)[23]? = some c := rfl
set_option maxRecDepth 100000 in
theorem hubCw_hub (x : Wh) (h : Hb) (a b c : Value) {j : Nat} {v : Value} (k : (hubC x h)[j]? = some v) : (hubCw x h a b c)[j]? = some v := by
  unfold hubCw
  have hj := (Array.getElem?_eq_some_iff.1 k).1
  rw [Array.getElem?_append_left hj]
  exact k
set_option maxRecDepth 100000 in
theorem loadHw {ops : Array Oper} {rest : List Oper} {o : Oper} {a : Act} {Q : Exit → Act → World → Prop} (W : World) (p : Operand) (g : Nat) (T : TypeId) (x : Wh) (h : Hb) (u v w : Value)
    (hg : W.heap[g]? = some (.cells (hubCw x h u v w) T (0, 0))) (hw : Region.wanted o (yielded ops a.tmps) = true) (ho : o.op = .load 29 p) (hx : a.eval p = .pointer (some ⟨g, 0, none⟩))
    (hK : wpList Try.prog ops Q rest (a.put o.dst (.agg (hubC x h))) W) : wpList Try.prog ops Q (o :: rest) a W :=
  BigFrame.wpList_want hw fun _ hK' => by
    refine wp_load_mid 29 p ho g 0 hx (hubC x h).toList _ (fun j vj hv => ?_) Try.underlying29 rfl (by rw [Array.length_toList, hubC_size]; kernel_rfl) ?_
    · rw [Nat.zero_add, cell_of_row _ _ _ _ _ _ hg]
      rw [Array.getElem?_toList] at hv
      exact hubCw_hub x h u v w hv
    · rw [Array.toArray_toList]
      exact hK' _ _ hK
set_option maxRecDepth 100000 in
theorem push_lives {h : Hb} {q : Nat} (hu : h.up q = true) (hq : q < 4) (a : List UInt8) : pushR h (q : Nat) a = (pushH h q a, (pushF (h.fd q) a).2, 0) := by
  unfold pushR
  rw [if_pos (by omega)]
  show (if h.up q = true then (pushH h q a, (pushF (h.fd q) a).2, (0 : Int)) else (h, [], 11)) = _
  rw [if_pos hu]
set_option maxRecDepth 100000 in
theorem push_down {h : Hb} {q : Nat} (hu : h.up q = false) (hq : q < 4) (a : List UInt8) : pushR h (q : Nat) a = (h, [], 11) := by
  unfold pushR
  rw [if_pos (by omega)]
  show (if h.up q = true then (pushH h q a, (pushF (h.fd q) a).2, (0 : Int)) else (h, [], 11)) = _
  rw [if_neg (by rw [hu]; decide)]
set_option maxRecDepth 100000 in
theorem cut_lives {h : Hb} {q : Nat} (hu : h.up q = true) (hq : q < 4) : cutR h (q : Nat) = (cutH h q, 0) := by
  unfold cutR
  rw [if_pos (by omega)]
  show (if h.up q = true then (cutH h q, (0 : Int)) else (h, 9)) = _
  rw [if_pos hu]
set_option maxRecDepth 100000 in
theorem cut_down {h : Hb} {q : Nat} (hu : h.up q = false) (hq : q < 4) : cutR h (q : Nat) = (h, 9) := by
  unfold cutR
  rw [if_pos (by omega)]
  show (if h.up q = true then (cutH h q, (0 : Int)) else (h, 9)) = _
  rw [if_neg (by rw [hu]; decide)]
set_option maxRecDepth 100000 in
theorem raise_lives {h : Hb} {q : Nat} (hu : h.up q = false) (hq : q < 4) : raiseR h (q : Nat) = (raiseH h q, 0) := by
  unfold raiseR
  rw [if_pos (by omega)]
  show (if h.up q = true then (h, (9 : Int)) else (raiseH h q, 0)) = _
  rw [if_neg (by rw [hu]; decide)]
set_option maxRecDepth 100000 in
theorem raise_up {h : Hb} {q : Nat} (hu : h.up q = true) (hq : q < 4) : raiseR h (q : Nat) = (h, 9) := by
  unfold raiseR
  rw [if_pos (by omega)]
  show (if h.up q = true then (h, (9 : Int)) else (raiseH h q, 0)) = _
  rw [if_pos hu]
set_option maxRecDepth 100000 in
theorem b64_nat {q : Nat} (h : q < 4) : B64 (q : Int) := by unfold B64; omega
end Go.Proofs.Ytplekllhnpljiaa
