
/- Package slot: what each call answers. -/
import Derived.Test.YtfppcmhhbheaiaaDoorJ23
import Derived.Test.YtfppcmhhbheaiaaDoorJ05
import Derived.OpenShut
import Derived.Test.YtfppcmhhbheaiaaDoorJ12
import Derived.LaidMore
import Derived.MakeChecks
import Derived.Lib.LaidTab
namespace Go.Proofs.YtfppcmhhbheaiaaDoor
open Go.RowKit

def B64t (x : Int) : Prop := -9223372036854775808 ≤ x ∧ x ≤ 9223372036854775807
/-- no slot has many bytes -/
def FewSk (s : Sr) : Prop := s.a.length ≤ 50000 ∧ s.b.length ≤ 50000
set_option maxRecDepth 100000 in
theorem fewS.k {s : Sr} (h : fewS s) : FewSk s := ⟨Nat.le_trans h.1 (by decide), Nat.le_trans h.2 (by decide)⟩
set_option maxRecDepth 100000 in
theorem RightS.k {s : Sr} (h : RightS s) : FewSk s := ⟨by rw [h.1]; decide, by rw [h.2]; decide⟩
set_option maxRecDepth 100000 in
theorem sRecord_any (n : Int) (W : World) (hT : Ks W) (hn : B64t n) : Calls Tryd.prog 9 #[.int .i64 n] W fun e W' => AnsOwB W.heap.size W' e (recordS n).1 (recordS n).2 ∧ Below W.heap.size W W' := record_any n W hT hn
set_option maxRecDepth 100000 in
theorem sGood_any (x : Wkb) (b : List UInt8) (W : World) (hT : Ks W) (hl : b.length ≤ 50000) (hk : KeyB W x b) : Calls Tryd.prog 11 #[.slice x.1 b.length x.2] W fun e W' => e = .returned (.tuple #[.int .i64 (goodS b).1, .bool (goodS b).2]) ∧ Below W.heap.size W W' := good_any x b W hT hl hk
set_option maxRecDepth 100000 in
theorem sNew_any (W : World) (hT : Ks W) : Calls Tryd.prog 16 #[] W fun e W' => AnsSt W' e newS ∧ Below W.heap.size W W' := new_any13 W hT
set_option maxRecDepth 100000 in
theorem sRight_any (x : Wt) (s : Sr) (W : World) (hf : FewSk s) (hx : StR W x s) : Calls Tryd.prog 18 #[.agg (storC x s)] W fun e W' => e = .returned (.bool (decide (RightS s))) ∧ Below W.heap.size W W' := right_any x s W hf.1 hf.2 hx
set_option maxRecDepth 100000 in
theorem sSame_any (x y : Wt) (s t : Sr) (W : World) (_hf : FewSk s) (_hf2 : FewSk t) (hx : StR W x s) (hy : StR W y t) : Calls Tryd.prog 19 #[.agg (storC x s), .agg (storC y t)] W fun e W' => e = .returned (.bool (decide (s = t))) ∧ Below W.heap.size W W' := same_any13 x y s t W hx hy
set_option maxRecDepth 100000 in
theorem sBest_any (x : Wt) (s : Sr) (W : World) (hT : Ks W) (hR : RightS s) (hx : StR W x s) : Calls Tryd.prog 20 #[.agg (storC x s)] W fun e W' => e = .returned (.tuple #[.int .i64 (bestS s).1, .int .i64 (bestS s).2.1, .bool (bestS s).2.2]) ∧ Below W.heap.size W W' := best_any x s W hT (RightS.k hR).1 (RightS.k hR).2 hx
set_option maxRecDepth 100000 in
theorem sTake_any (x : Wt) (s : Sr) (cut : Int) (W : World) (hT : Ks W) (hR : RightS s) (hc : B64t cut) (hx : StR W x s) : Calls Tryd.prog 22 #[.agg (storC x s), .int .i64 cut] W fun e W' => AnsSt3 W' e (takeS s cut).1 (takeS s cut).2.1 (takeS s cut).2.2 ∧ Below W.heap.size W W' := take_any13 x s cut W hT hR hc hx
end Go.Proofs.YtfppcmhhbheaiaaDoor
/- A store that came in by value, opened; the arguments of SlotTells and SlotRecords. -/

namespace Go.Proofs.YtfppcmhhbheaiaaDoor
open Go.ChangeShapes Go.WideShapes Go.ChangeAt Go.RowKit

set_option maxRecDepth 100000 in
theorem trod_struct2s {P : Program} {H : Type} {enc : TypeId × Value → H} {w : World} {base : Nat} {spare : Nat → Bool} {held : Bool} {t : TypeId} {f0 f1 : Field} {fuel : Nat} {cs : List Value} {x : DataW H × List MemPlace} (ht : P.underlying t = some (.struct #[f0, f1])) (h : DataW.trod enc P w base spare held fuel t cs = some x) :
    ∃ y0 y1 n, DataW.trod enc P w base spare held n f0.type ((cs.drop f0.offset).take (P.cellsOf f0.type)) = some y0 ∧ DataW.trod enc P w base spare held n f1.type ((cs.drop f1.offset).take (P.cellsOf f1.type)) = some y1 := by
  obtain ⟨xs, n, _, rfl, hl, hlen, hf⟩ := DataW.trod_struct ht h
  match xs, hlen with
  | [y0, y1], _ => exact ⟨y0, y1, n, by simpa using hf 0 f0 rfl, by simpa using hf 1 f1 rfl⟩
set_option maxRecDepth 100000 in
theorem trod_struct4s {P : Program} {H : Type} {enc : TypeId × Value → H} {w : World} {base : Nat} {spare : Nat → Bool} {held : Bool} {t : TypeId} {f0 f1 f2 f3 : Field} {fuel : Nat} {cs : List Value} {x : DataW H × List MemPlace} (ht : P.underlying t = some (.struct #[f0, f1, f2, f3])) (h : DataW.trod enc P w base spare held fuel t cs = some x) :
    ∃ y0 y1 y2 y3 n, DataW.trod enc P w base spare held n f0.type ((cs.drop f0.offset).take (P.cellsOf f0.type)) = some y0 ∧ DataW.trod enc P w base spare held n f1.type ((cs.drop f1.offset).take (P.cellsOf f1.type)) = some y1 ∧
      DataW.trod enc P w base spare held n f2.type ((cs.drop f2.offset).take (P.cellsOf f2.type)) = some y2 ∧ DataW.trod enc P w base spare held n f3.type ((cs.drop f3.offset).take (P.cellsOf f3.type)) = some y3 := by
  obtain ⟨xs, n, _, rfl, hl, hlen, hf⟩ := DataW.trod_struct ht h
  match xs, hlen with
  | [y0, y1, y2, y3], _ => exact ⟨y0, y1, y2, y3, n, by simpa using hf 0 f0 rfl, by simpa using hf 1 f1 rfl, by simpa using hf 2 f2 rfl, by simpa using hf 3 f3 rfl⟩
set_option maxRecDepth 100000 in
theorem int_inS {H : Type} {enc : TypeId × Value → H} {W : World} {base fuel : Nat} {spare : Nat → Bool} {held : Bool} {a : Value} {y : DataW H × List MemPlace} (hf : DataW.trod enc Tryd.prog W base spare held fuel 3 [a] = some y) : ∃ u : Int, a = .int .i64 u ∧ B64t u := by
  obtain ⟨u, e, -, w⟩ := DataW.trod_int Tryd.underlying3 hf
  simp only [List.cons.injEq, and_true] at e
  exact ⟨u, e, i64_bd w⟩
set_option maxRecDepth 100000 in
theorem byte_inS {H : Type} {enc : TypeId × Value → H} {W : World} {base fuel : Nat} {spare : Nat → Bool} {held : Bool} {a : Value} {y : DataW H × List MemPlace} (hf : DataW.trod enc Tryd.prog W base spare held fuel 5 [a] = some y) : ∃ u : Int, a = .int .u8 u ∧ 0 ≤ u ∧ u ≤ 255 := by
  obtain ⟨u, e, -, w⟩ := DataW.trod_int Tryd.underlying5 hf
  simp only [List.cons.injEq, and_true] at e
  exact ⟨u, e, u8_bd w⟩
set_option maxRecDepth 100000 in
theorem row_inS {H : Type} {enc : TypeId × Value → H} {W : World} {base fuel : Nat} {held : Bool} {a : Value} {y : DataW H × List MemPlace} (hf : DataW.trod enc Tryd.prog W base (fun _ => true) held fuel 22 [a] = some y) : ∃ (x : Wkb) (l : List UInt8), a = .slice x.1 l.length x.2 ∧ KeyB W x l := by
  obtain ⟨A, m, k, e0⟩ := Go.Joins.slice_form Tryd.underlying22 hf
  simp only [List.cons.injEq, and_true] at e0
  subst e0
  obtain ⟨l, rfl, p1, p2, p3⟩ := bytes_in hf
  exact ⟨(A, k), l, rfl, p1, p2, p3⟩
set_option maxRecDepth 100000 in
theorem store_cells {H : Type} {enc : TypeId × Value → H} {W : World} {base fuel : Nat} {held : Bool} {v0 v1 : Value} {y : DataW H × List MemPlace}
    (hf : DataW.trod enc Tryd.prog W base (fun _ => true) held fuel 24 [v0, v1] = some y) :
    ∃ x s, #[v0, v1] = storC x s ∧ StR W x s := by
  obtain ⟨y0, y1, n, h0, h1⟩ := trod_struct2s Tryd.underlying24 hf
  have k2 : Tryd.prog.cellsOf 22 = 1 := by kernel_rfl
  obtain ⟨x6, l6, rfl, r6⟩ := row_inS (a := v0) (by simpa [k2] using h0)
  obtain ⟨x7, l7, rfl, r7⟩ := row_inS (a := v1) (by simpa [k2] using h1)
  exact ⟨⟨x6, x7⟩, ⟨l6, l7⟩, rfl, r6, r7⟩
set_option maxRecDepth 100000 in
theorem array2s {α : Type} {cs : Array α} (h : cs.size = 2) : ∃ v0 v1, cs = #[v0, v1] := by
  obtain ⟨l⟩ := cs
  match l, h with
  | [v0, v1], _ => exact ⟨v0, v1, rfl⟩
set_option maxRecDepth 100000 in
theorem array4s {α : Type} {cs : Array α} (h : cs.size = 4) : ∃ v0 v1 v2 v3, cs = #[v0, v1, v2, v3] := by
  obtain ⟨l⟩ := cs
  match l, h with
  | [v0, v1, v2, v3], _ => exact ⟨v0, v1, v2, v3, rfl⟩
set_option maxRecDepth 100000 in
theorem array6s {α : Type} {cs : Array α} (h : cs.size = 6) : ∃ v0 v1 v2 v3 v4 v5, cs = #[v0, v1, v2, v3, v4, v5] := by
  obtain ⟨l⟩ := cs
  match l, h with
  | [v0, v1, v2, v3, v4, v5], _ => exact ⟨v0, v1, v2, v3, v4, v5, rfl⟩
set_option maxRecDepth 100000 in
theorem store_in {H : Type} {enc : TypeId × Value → H} {W : World} {base : Nat} {held : Bool} {b0 : Nat} {v : Value} {d : DataW H} {p : List MemPlace} (hv : Value.okWide Tryd.prog W .any b0 24 v) (h : DataW.Trod enc Tryd.prog W base (fun _ => true) held 24 v d p) :
    ∃ x s, v = .agg (storC x s) ∧ StR W x s := by
  obtain ⟨cs, rfl, hsz⟩ := okWide_struct Tryd.underlying24 hv
  obtain ⟨v0, v1, rfl⟩ := array2s (hsz.trans (by kernel_rfl))
  obtain ⟨fuel, hf⟩ := h
  obtain ⟨x, r, e, h1⟩ := store_cells hf
  exact ⟨x, r, by rw [e], h1⟩
/-- SlotTells' argument: a number, a row, two stores -/
def sTellC (n : Int) (z : Wkb) (b : List UInt8) (x : Wt) (s : Sr) (y : Wt) (o : Sr) : Array Value := #[.int .i64 n, .slice z.1 b.length z.2, .slice x.a.1 s.a.length x.a.2, .slice x.b.1 s.b.length x.b.2, .slice y.a.1 o.a.length y.a.2, .slice y.b.1 o.b.length y.b.2]
set_option maxRecDepth 100000 in
theorem slotTells_in {H : Type} {enc : TypeId × Value → H} {W : World} {base : Nat} {held : Bool} {b0 : Nat} {v : Value} {d : DataW H} {p : List MemPlace} (hv : Value.okWide Tryd.prog W .any b0 26 v) (h : DataW.Trod enc Tryd.prog W base (fun _ => true) held 26 v d p) :
    ∃ n z b x s y o, v = .agg (sTellC n z b x s y o) ∧ B64t n ∧ KeyB W z b ∧ StR W x s ∧ StR W y o := by
  obtain ⟨cs, rfl, hsz⟩ := okWide_struct Tryd.underlying26 hv
  obtain ⟨v0, v1, v2, v3, v4, v5, rfl⟩ := array6s (hsz.trans (by kernel_rfl))
  obtain ⟨fuel, hf⟩ := h
  have hf' : DataW.trod enc Tryd.prog W base (fun _ => true) held fuel 26 [v0, v1, v2, v3, v4, v5] = some (d, p) := hf
  obtain ⟨y0, y1, y2, y3, n, h0, h1, h2, h3⟩ := trod_struct4s Tryd.underlying26 hf'
  have k1 : Tryd.prog.cellsOf 24 = 2 := by kernel_rfl
  have k2 : Tryd.prog.cellsOf 3 = 1 := by kernel_rfl
  have k3 : Tryd.prog.cellsOf 22 = 1 := by kernel_rfl
  obtain ⟨m, rfl, hm⟩ := int_inS (a := v0) (by simpa [k2] using h0)
  obtain ⟨z, b, rfl, hz⟩ := row_inS (a := v1) (by simpa [k3] using h1)
  have h2' : DataW.trod enc Tryd.prog W base (fun _ => true) held n 24 [v2, v3] = some y2 := by simpa [k1] using h2
  have h3' : DataW.trod enc Tryd.prog W base (fun _ => true) held n 24 [v4, v5] = some y3 := by simpa [k1] using h3
  obtain ⟨x, s, ea, ra⟩ := store_cells h2'
  obtain ⟨y, o, eb, rb⟩ := store_cells h3'
  unfold storC at ea eb
  simp only [Array.mk.injEq, List.cons.injEq, and_true] at ea eb
  obtain ⟨rfl, rfl⟩ := ea
  obtain ⟨rfl, rfl⟩ := eb
  exact ⟨m, z, b, x, s, y, o, rfl, hm, hz, ra, rb⟩
/-- SlotRecords' argument: two numbers, two bytes -/
def sRecC (m n at_ by_ : Int) : Array Value := #[.int .i64 m, .int .i64 n, .int .u8 at_, .int .u8 by_]
set_option maxRecDepth 100000 in
theorem slotRecs_in {H : Type} {enc : TypeId × Value → H} {W : World} {base : Nat} {held : Bool} {b0 : Nat} {v : Value} {d : DataW H} {p : List MemPlace} (hv : Value.okWide Tryd.prog W .any b0 47 v) (h : DataW.Trod enc Tryd.prog W base (fun _ => true) held 47 v d p) :
    ∃ m n at_ by_, v = .agg (sRecC m n at_ by_) ∧ B64t m ∧ B64t n ∧ (0 ≤ at_ ∧ at_ ≤ 255) ∧ (0 ≤ by_ ∧ by_ ≤ 255) := by
  obtain ⟨cs, rfl, hsz⟩ := okWide_struct Tryd.underlying47 hv
  obtain ⟨v0, v1, v2, v3, rfl⟩ := array4s (hsz.trans (by kernel_rfl))
  obtain ⟨fuel, hf⟩ := h
  have hf' : DataW.trod enc Tryd.prog W base (fun _ => true) held fuel 47 [v0, v1, v2, v3] = some (d, p) := hf
  obtain ⟨y0, y1, y2, y3, n, h0, h1, h2, h3⟩ := trod_struct4s Tryd.underlying47 hf'
  have k2 : Tryd.prog.cellsOf 3 = 1 := by kernel_rfl
  have k3 : Tryd.prog.cellsOf 5 = 1 := by kernel_rfl
  obtain ⟨m, rfl, hm⟩ := int_inS (a := v0) (by simpa [k2] using h0)
  obtain ⟨m2, rfl, hm2⟩ := int_inS (a := v1) (by simpa [k2] using h1)
  obtain ⟨m3, rfl, hm3⟩ := byte_inS (a := v2) (by simpa [k3] using h2)
  obtain ⟨m4, rfl, hm4⟩ := byte_inS (a := v3) (by simpa [k3] using h3)
  exact ⟨m, m2, m3, m4, rfl, hm, hm2, hm3, hm4⟩
end Go.Proofs.YtfppcmhhbheaiaaDoor
/- What the laws' frames share where the table of keys is listed: the condition, its witness, what it gives the walks. -/

namespace Go.Proofs.YtfppcmhhbheaiaaDoor
open Go.ChangeShapes Go.WideShapes Go.ChangeAt Go.RowKit

abbrev laid1 : List (String × DataW Unit) := [("yett/sha.keys", Rows.laid_yett_sha_keys)]
set_option maxRecDepth 100000 in
theorem door_met (os : Os) (args : Array Value) : laidMetH Tryd.prog laid1 ((World.doorLaid Tryd.prog 14 os).forCall (fun _ _ => 0) ⟨#[], args, []⟩).memory :=
  laidMetH_of_parts3 (fuel := 8) (laidMet_of_run' 8 (by kernel_rfl) (by kernel_rfl)) (by kernel_rfl) (by kernel_rfl)
set_option maxRecDepth 100000 in
theorem gKeys : Tryd.prog.globalNamed "yett/sha.keys" = some 0 := by kernel_rfl
set_option maxRecDepth 100000 in
theorem tKeys : (Tryd.prog.globals[0]?).map (·.type) = some 83 := by kernel_rfl
set_option maxRecDepth 100000 in
theorem keysData : (Rows.laid_yett_sha_keys : DataW Unit) = Lib.tabData .u32 (ksL.map fun x => (x.toNat : Int)) := by kernel_rfl
set_option maxRecDepth 100000 in
theorem ks_of_laid {W : World} (h : laidMetH Tryd.prog laid1 W) : Ks W := by
  rw [MakeChecks.laidMetH_plain _ _ _ (by kernel_rfl)] at h
  obtain ⟨ps, ⟨g0, t0, cs0, f0, p0, q0, hg0, ht0, hv0, hd0, _, _⟩, _, _⟩ := h
  obtain rfl := Option.some.inj (gKeys.symm.trans hg0)
  obtain rfl := Option.some.inj (tKeys.symm.trans ht0)
  rw [keysData] at hd0
  have hcs := Lib.cells_of_tab Tryd.underlying83 Tryd.underlying62 (by kernel_rfl) (by kernel_rfl) hd0
  have hc : ∀ j, j < 64 → W.cell? ⟨0, j, none⟩ = some (wv (ksAt j)) := by
    intro j hj
    have h1 := World.var?_cell hg0 hv0 j
    have h2 : cs0[j]? = cs0.toList[j]? := by simp
    rw [h1, h2, hcs]
    have hl : j < ksL.length := hj
    rw [List.getElem?_map, List.getElem?_map, List.getElem?_eq_getElem hl]
    unfold ksAt
    rw [List.getD_eq_getElem?_getD, List.getElem?_eq_getElem hl]
    rfl
  exact ⟨World.block_lt_of_cell? W ⟨0, 0, none⟩ (hc 0 (by omega)), hc⟩
end Go.Proofs.YtfppcmhhbheaiaaDoor
