
/- The table of fields in memory: what the card's condition tells, and what each call reads of it. -/
import Derived.Test.YtecdmdgpmbgaaaaDoorFrame
import Derived.LaidMore
import Derived.MakeChecks
import Derived.Lib.LaidTab
import Derived.OpenShut
import Derived.ChangeSame
namespace Go.Proofs.YtecdmdgpmbgaaaaDoor
open Go.ChangeShapes Go.WideShapes Go.ChangeAt Go.RowKit

theorem at_list5 {P : Program} {ops : Array Oper} {rest : List Oper} {o : Oper} {a : Act} {w : World} {Q : Exit → Act → World → Prop} (h : wpList P ops Q (o :: rest) a w) : wpList P ops Q (o :: rest) a w := h
/-- a field, its kind, its length -/
def rowsT : List (Nat × Nat × Nat) := [(2, 2, 19), (3, 1, 6), (4, 1, 12), (7, 1, 10), (11, 1, 6), (12, 1, 6), (13, 1, 4), (14, 1, 4), (15, 1, 6), (18, 1, 4), (22, 1, 3), (25, 1, 2), (32, 2, 11), (35, 4, 37), (37, 3, 12), (38, 3, 6), (39, 3, 2), (41, 3, 8), (42, 3, 15), (48, 5, 400), (49, 1, 3), (52, 6, 8), (53, 1, 16), (54, 5, 120), (55, 7, 255), (64, 6, 8), (70, 1, 3), (90, 1, 42), (95, 3, 42), (96, 6, 8), (100, 2, 11), (102, 4, 28), (127, 7, 400), (128, 6, 8)]
def csT : List Value := rowsT.flatMap fun r => [.int .i64 r.1, .int .i64 r.2.1, .int .i64 r.2.2]
theorem csT_len : csT.length = 102 := by decide
/-- the table lies in block 0 -/
def Tb (w : World) : Prop := ∃ t fr, w.heap[0]? = some (.cells csT.toArray t fr)
theorem Tb.pos {w : World} (h : Tb w) : 0 < w.heap.size := by
  obtain ⟨t, fr, h⟩ := h
  exact (Array.getElem?_eq_some_iff.1 h).1
theorem Tb.below {w w' : World} (h : Tb w) (hb : Below w.heap.size w w') : Tb w' := by
  have h0 := h.pos
  obtain ⟨t, fr, h⟩ := h
  exact ⟨t, fr, (hb.block 0 h0).trans h⟩

theorem row_cells {H : Type} {enc : TypeId × Value → H} {w : World} {base : Nat} {sp : Nat → Bool} {held : Bool} {fuel : Nat} {cs : List Value} {x : DataW H × List MemPlace} {a b c : Int}
    (h : DataW.trod enc Tryd.prog w base sp held fuel 53 cs = some x) (hx : x.1 = .agg [.lit (.int .i64 a), .agg [.lit (.int .i64 b), .lit (.int .i64 c)]]) : cs = [.int .i64 a, .int .i64 b, .int .i64 c] := by
  have c3 : Tryd.prog.cellsOf 3 = 1 := by kernel_rfl
  have c25 : Tryd.prog.cellsOf 25 = 2 := by kernel_rfl
  have c53 : Tryd.prog.cellsOf 53 = 3 := by kernel_rfl
  obtain ⟨y0, y1, n, rfl, hl, h0, h1⟩ := trod_struct2 Tryd.underlying53 h
  rw [c53] at hl
  dsimp only at h0 h1
  rw [c3] at h0
  rw [c25] at h1
  obtain ⟨z0, e0, rfl, -⟩ := DataW.trod_int Tryd.underlying3 h0
  obtain ⟨u0, u1, m, rfl, hl1, g0, g1⟩ := trod_struct2 Tryd.underlying25 h1
  dsimp only at g0 g1
  rw [c3] at g0 g1
  obtain ⟨z1, e1, rfl, -⟩ := DataW.trod_int Tryd.underlying3 g0
  obtain ⟨z2, e2, rfl, -⟩ := DataW.trod_int Tryd.underlying3 g1
  match cs, hl with
  | [p, q, r], _ =>
    simp at hx e0 e1 e2
    obtain ⟨rfl, rfl, rfl⟩ := hx
    rw [e0, e1, e2]

abbrev laid1 : List (String × DataW Unit) := [("yett/field.rows", Rows.laid_yett_field_rows)]
theorem door_met (os : Os) (args : Array Value) : laidMetH Tryd.prog laid1 ((World.doorLaid Tryd.prog 100 os).forCall (fun _ _ => 0) ⟨#[], args, []⟩).memory :=
  laidMetH_of_parts3 (fuel := 8) (laidMet_of_run' 8 (by kernel_rfl) (by kernel_rfl)) (by kernel_rfl) (by kernel_rfl)
theorem gRows : Tryd.prog.globalNamed "yett/field.rows" = some 0 := by kernel_rfl
theorem tRows : (Tryd.prog.globals[0]?).map (·.type) = some 54 := by kernel_rfl
theorem rowsData : (Rows.laid_yett_field_rows : DataW Unit) = .agg (rowsT.map fun r => .agg [.lit (.int .i64 r.1), .agg [.lit (.int .i64 r.2.1), .lit (.int .i64 r.2.2)]]) := by kernel_rfl
theorem flat_get (f : Nat × Nat × Nat → List Value) (hf : ∀ r, (f r).length = 3) : ∀ (l : List (Nat × Nat × Nat)) (cs : List Value), cs.length = l.length * 3 → (∀ i r, l[i]? = some r → (cs.drop (i * 3)).take 3 = f r) → cs = l.flatMap f
  | [], cs, hl, _ => by
    have : cs = [] := List.eq_nil_of_length_eq_zero (by simpa using hl)
    rw [this]; rfl
  | r :: l, cs, hl, h => by
    have h0 := h 0 r rfl
    rw [Nat.zero_mul, List.drop_zero] at h0
    have ih := flat_get f hf l (cs.drop 3) (by rw [List.length_drop, hl, List.length_cons]; omega) (fun i x hx => by
      have h1 := h (i + 1) x (by simpa using hx)
      rw [List.drop_drop]
      rw [show 3 + i * 3 = (i + 1) * 3 by omega]
      exact h1)
    rw [List.flatMap_cons, ← ih, ← h0]
    exact (List.take_append_drop 3 cs).symm
theorem tb_of_laid {W : World} (h : laidMetH Tryd.prog laid1 W) : Tb W := by
  rw [MakeChecks.laidMetH_plain _ _ _ (by kernel_rfl)] at h
  obtain ⟨ps, ⟨g0, t0, cs0, f0, p0, q0, hg0, ht0, hv0, hd0, _, _⟩, _, _⟩ := h
  obtain rfl := Option.some.inj (gRows.symm.trans hg0)
  obtain rfl := Option.some.inj (tRows.symm.trans ht0)
  rw [rowsData] at hd0
  obtain ⟨xs, m, -, hx, hl, hxl, hel⟩ := DataW.trod_array Tryd.underlying54 hd0
  have c53 : Tryd.prog.cellsOf 53 = 3 := by kernel_rfl
  have c54 : Tryd.prog.cellsOf 54 = 102 := by kernel_rfl
  rw [c53] at hel
  rw [c54] at hl
  have hx1 : xs.map (·.1) = rowsT.map fun r => (.agg [.lit (.int .i64 r.1), .agg [.lit (.int .i64 r.2.1), .lit (.int .i64 r.2.2)]] : DataW Unit) := by
    have := congrArg Prod.fst hx
    simpa using this.symm
  have hcs : cs0.toList = csT := by
    refine flat_get _ (fun r => rfl) rowsT cs0.toList (by rw [hl]; rfl) (fun i r hr => ?_)
    have hi : i < 34 := by
      have := (List.getElem?_eq_some_iff.1 hr).1
      exact this
    have h1 := hel i hi
    have h2 := congrArg (·[i]?) hx1
    simp only [List.getElem?_map, hr, Option.map_some] at h2
    cases hxi : xs[i]? with
    | none => rw [hxi] at h2; cases h2
    | some y =>
      rw [hxi] at h1 h2
      exact row_cells h1 (by simpa using h2)
  simp only [World.var?, gRows, Option.bind_some] at hv0
  split at hv0
  · rename_i cs1 t1 fr1 hg1
    obtain rfl := Option.some.inj hv0
    refine ⟨t1, fr1, ?_⟩
    rw [← hcs, Array.toArray_toList]
    exact hg1
  · cases hv0
end Go.Proofs.YtecdmdgpmbgaaaaDoor
