
/- append(x, make([]byte, n)...) onto a slice of the call's own, whether there is room or not; stores into it. -/
import Derived.Test.YtjkkceecagbjjaaJ05
import Derived.Lib.AppendZerosOnto
namespace Go.Proofs.Ytjkkceecagbjjaa
open Go.RowKit

set_option maxRecDepth 100000 in
theorem zeroCells_cs (Z : Nat) : (Builtin.zeroCells (Value.int .u8 0).cells Z).toList = cs (List.replicate Z 0) := by
  apply List.ext_getElem?
  intro j
  by_cases hj : j < Z
  · simp [Builtin.zeroCells, cs, Value.cells, hj, Nat.mod_one]
  · simp [Builtin.zeroCells, cs, Value.cells, hj, Nat.mod_one]
set_option maxRecDepth 100000 in
theorem run_appZG (ty : TypeId) (w : World) (base g n cap : Nat) (l : List UInt8) (Z : Nat) (h : Ow w base (.slice (some ⟨g, 0, none⟩) n cap) l) (h0 : 0 < Z) (hZ : Z ≤ 100000) (hl : l.length ≤ 100000) (hbase : base ≤ w.heap.size) :
    ∃ v' w', (Builtin.append_ #[23, 3] ty #[.slice (some ⟨g, 0, none⟩) n cap, .int .i64 Z]).run Try.prog w = .ok v' w' ∧ Ow w' base v' (l ++ List.replicate Z 0) ∧ w.grownBy w' (some g) := by
  obtain ⟨i0, hi, hz0, hz1, hz2⟩ := info_parts info5
  obtain ⟨hcl, hh⟩ := h
  rcases hh with ⟨e, _⟩ | ⟨g', cap', cur, e, hbg, hg, hnc, hcm, hcs, htake⟩
  · cases e
  cases e
  have hlen : (l ++ List.replicate Z (0 : UInt8)).length = l.length + Z := by simp
  have hcsl : (cs (l ++ List.replicate Z 0)).length = l.length + Z := by rw [cs_length, hlen]
  by_cases hroom : l.length + Z ≤ cap
  · have hst := run_storeCells_at Try.prog g (l.length * i0.size) 5 (cs (List.replicate Z 0)) 0 cur w hg (by rw [cs_length, List.length_replicate, hcs, hz1]; omega) (cs_one _)
    simp only [Nat.add_zero] at hst
    have hw : IntKind.i64.wrap (Z : Int) = Z := by rw [IntKind.wrap_i64]; omega
    have hneg : ¬ ((Z : Int) < 0) := by omega
    have hns : ¬ (Z * i0.size = 0) := by rw [hz1]; omega
    have h48 : ¬ (281474976710656 < (Z : Int) * (i0.bytes : Int)) := by rw [hz2]; omega
    have hzz := zeroCells_cs Z
    have hrun : (Builtin.append_ #[23, 3] ty #[.slice (some ⟨g, 0, none⟩) l.length cap, .int .i64 Z]).run Try.prog w = .ok (.slice (some ⟨g, 0, none⟩) (l.length + Z) cap) (w.setRow g (cur.toList.take (l.length * i0.size) ++ cs (List.replicate Z 0) ++ cur.toList.drop (l.length * i0.size + (cs (List.replicate Z 0)).length)).toArray) := by
      simp [Builtin.append_, run_underlying Try.underlying23, run_underlying Try.underlying3, sizeOf, typeInfo, zeroValue, hi, hz0, asInt, asIntOf, hw, hneg, hns, h48, hroom, Addr.add_lit, hzz, hst]
    refine ⟨_, _, hrun, ⟨by simp [cs], .inr ⟨g, cap, _, by rw [hlen], hbg, setRow_heap w g cur _ _ _ hg, by rw [hlen]; exact hroom, hcm, ?_, ?_⟩⟩, ⟨rfl, rfl, rfl, by simp, fun k _ hk => setRow_other w g k _ (fun e => hk (by simp [e]))⟩⟩
    · simp only [List.size_toArray, List.length_append, List.length_take, List.length_drop, Array.length_toList, cs_length, List.length_replicate]
      rw [hz1]
      omega
    · rw [hz1, htake, ← cs_append, hlen, Nat.mul_one, ← hcsl]
      exact List.take_left
  · have holds : ∀ j u, (cs l)[j]? = some u → w.drew.cell? ((⟨g, 0, none⟩ : Addr).add j) = some u := World.ownsRow.cells (w := w) (v := .slice (some ⟨g, 0, none⟩) l.length cap) (n := l.length) (size := 1) (base := base) (e := 5) ⟨hcl, .inr ⟨g, cap, cur, rfl, hbg, hg, hnc, hcm, hcs, htake⟩⟩ (g := g) rfl
    have hf := run_firstCells_some (P := Try.prog) w.drew i0.size l.length ⟨g, 0, none⟩ l.length cap (cs l) (by rw [hz1, cs_length, Nat.mul_one]) holds
    have hrun := Lib.run_append_grow_zeros (P := Try.prog) w 23 3 ty 5 i0 (.int .u8 0) .i64 .i64 Try.underlying23 Try.underlying3 hi hz0 (some ⟨g, 0, none⟩) l.length cap (cs l) hf Z h0 (by rw [hz1]; omega) (by omega) (by omega) (by rw [hz2]; omega) (by rw [hz2]; exact growslice_fits (by omega) (by omega))
    have hge := grownCap_ge w (l.length + Z) cap 5
    have hcm2 : grownCap w (l.length + Z) cap 5 ≤ maxLen := grownCap_le_maxLen w (l.length + Z) cap 5 (by unfold maxLen; omega)
    have hzc : (Value.int .u8 0).cells.size = 1 := rfl
    refine ⟨_, _, hrun, ⟨by simp [cs], .inr ⟨w.heap.size, _, _, by rw [hlen], hbase, heap_alloc_new w.drew _, by rw [hlen]; exact hge, hcm2, ?_, ?_⟩⟩, ⟨rfl, rfl, rfl, by simp, fun k hk _ => heap_alloc_old w.drew _ hk⟩⟩
    · simp only [Array.size_append, List.size_toArray, size_zeroCells, hzc, cs_length]
      omega
    · simp only [Array.toList_append, zeroCells_cs]
      rw [← cs_append, hlen, Nat.mul_one, ← hcsl]
      exact List.take_left
set_option maxRecDepth 100000 in
theorem wpList_appZG {ops : Array Oper} {rest : List Oper} {o : Oper} {a : Act} {Q : Exit → Act → World → Prop} (w : World) (hw : Region.wanted o (yielded ops a.tmps) = true) (s y : Operand)
    (ho : o.op = .call { callee := .builtin .append, args := #[s, y], argTypes := #[23, 3] })
    (base g n cap : Nat) (l : List UInt8) (Z : Nat) (hs : a.eval s = .slice (some ⟨g, 0, none⟩) n cap) (hy : a.eval y = .int .i64 Z) (h : Ow w base (.slice (some ⟨g, 0, none⟩) n cap) l) (h0 : 0 < Z) (hZ : Z ≤ 100000) (hl : l.length ≤ 100000) (hbase : base ≤ w.heap.size)
    (hK : ∀ v' w', Ow w' base v' (l ++ List.replicate Z 0) → w.grownBy w' (some g) → wpList Try.prog ops Q rest (a.put o.dst v') w') : wpList Try.prog ops Q (o :: rest) a w :=
  BigFrame.wpList_want hw fun K hK' => by
    obtain ⟨v', w', hr, h2, h3⟩ := run_appZG o.type w base g n cap l Z h h0 hZ hl hbase
    exact Lib.wp_append_run w s y 23 3 ho _ _ hs hy v' w' hr (hK' _ _ (hK v' w' h2 h3))
set_option maxRecDepth 100000 in
theorem Ow.setG {w : World} {base g n cap : Nat} {l : List UInt8} (h : Ow w base (.slice (some ⟨g, 0, none⟩) n cap) l) (i : Nat) (z : UInt8) :
    Ow (w.setCell ⟨g, i, none⟩ (.int .u8 (z.toNat : Int))) base (.slice (some ⟨g, 0, none⟩) n cap) (l.set i z) := by
  refine ⟨by simp [cs], ?_⟩
  rcases h.2 with ⟨e, _⟩ | ⟨g', cap', cur, e, hb, hg, hn, hcap, hsz, htake⟩
  · cases e
  · cases e
    refine .inr ⟨g, cap, cur.setIfInBounds i (.int .u8 (z.toNat : Int)), by rw [List.length_set], hb, ?_, by rw [List.length_set]; exact hn, hcap, by rw [Array.size_setIfInBounds]; exact hsz, ?_⟩
    · exact heap_setCell_same w g i _ _ _ hg
    · rw [List.length_set, Array.toList_setIfInBounds, List.take_set, htake]
      simp [cs, List.map_set]
set_option maxRecDepth 100000 in
theorem Ow.thawG {w : World} {base g n cap : Nat} {l : List UInt8} (h : Ow w base (.slice (some ⟨g, 0, none⟩) n cap) l) (i : Nat) : w.frozen? ⟨g, i, none⟩ = false := by
  rcases h.2 with ⟨e, _⟩ | ⟨g', cap', cur, e, hb, hg, _⟩
  · cases e
  · cases e
    exact frozen_of_row w g i _ _ hg
set_option maxRecDepth 100000 in
theorem Ow.cellG {w : World} {base g n cap : Nat} {l : List UInt8} (h : Ow w base (.slice (some ⟨g, 0, none⟩) n cap) l) (i : Nat) (hi : i < l.length) : w.cell? ⟨g, i, none⟩ = some (.int .u8 (l[i].toNat : Int)) := by
  have := World.ownsRow.cells h (g := g) rfl i _ (cs_get l i hi)
  rwa [Addr.add_lit, Nat.zero_add] at this
set_option maxRecDepth 100000 in
theorem Ow.rdG {w : World} {base g n cap : Nat} {l : List UInt8} (h : Ow w base (.slice (some ⟨g, 0, none⟩) n cap) l) : Rd w w.heap.size (some ⟨g, 0, none⟩) l := by
  obtain ⟨A, c, e, _, _, hr⟩ := h.form
  cases e
  exact hr
set_option maxRecDepth 100000 in
theorem Ow.callG {w w' : World} {base : Nat} {v : Value} {l : List UInt8} (h : Ow w base v l) (hb : Below w.heap.size w w') : Ow w' base v l := by
  refine ⟨h.1, ?_⟩
  rcases h.2 with h0 | ⟨g, cap, cur, e, hbg, hg, hn, hcap, hsz, htake⟩
  · exact .inl h0
  · exact .inr ⟨g, cap, cur, e, hbg, oldG hg hb (Nat.le_refl _), hn, hcap, hsz, htake⟩
set_option maxRecDepth 100000 in
theorem Ow.bdG {w : World} {base g n cap : Nat} {l : List UInt8} (h : Ow w base (.slice (some ⟨g, 0, none⟩) n cap) l) : n = l.length ∧ l.length ≤ cap ∧ cap ≤ 9223372036854775807 ∧ base ≤ g ∧ g < w.heap.size := by
  rcases h.2 with ⟨e, _⟩ | ⟨g', cap', cur, e, hb, hg, hn, hcap, hsz, htake⟩
  · cases e
  · cases e
    exact ⟨rfl, hn, by simpa [maxLen] using hcap, hb, (Array.getElem?_eq_some_iff.1 hg).1⟩
end Go.Proofs.Ytjkkceecagbjjaa
