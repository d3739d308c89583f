
/- The document's answers (frame): Pack, Same, Right. -/
import Derived.Test.YtplekllhnpljiaaJ02
import Derived.Test.YtplekllhnpljiaaJ03
import Derived.Test.YtplekllhnpljiaaJ10
import Derived.Deep.QuietTactic
import Derived.BigQuiet
import Derived.Test.YtplekllhnpljiaaJ01
import Derived.Lib.AppendZerosOnto
namespace Go.Proofs.Ytplekllhnpljiaa
open Go.RowKit

set_option maxRecDepth 100000 in
/-- bytes laid into a new block are the call's own -/
theorem Ow.madeL (w : World) {base : Nat} (hb : base ≤ w.heap.size) (l : List UInt8) (hl : l.length ≤ 1000000) : Ow (w.alloc (.cells (cs l).toArray 5)) base (.slice (some ⟨w.heap.size, 0, none⟩) l.length l.length) l :=
  ⟨by simp [cs], .inr ⟨w.heap.size, l.length, (cs l).toArray, rfl, hb, heap_alloc_new w _, Nat.le_refl _, by unfold maxLen; omega, by simp [cs], by show ((cs l).toArray.toList).take (l.length * 1) = cs l; rw [Nat.mul_one]; exact List.take_of_length_le (by simp [cs])⟩⟩
set_option maxRecDepth 100000 in
theorem box2x (W : World) (x y : Array Value) (t u : TypeId) : ∃ V, V = (W.alloc (.cells x t)).alloc (.cells y u) ∧ Below W.heap.size W V ∧ V.heap[W.heap.size]? = some (.cells x t (0, 0)) ∧ V.heap[W.heap.size + 1]? = some (.cells y u (0, 0)) := by
  refine ⟨_, rfl, ((Below.refl W.heap.size W).alloc (Nat.le_refl _) _).alloc (by rw [World.size_alloc]; omega) _, ?_, ?_⟩
  · exact (heap_alloc_old (W.alloc (.cells x t)) _ (by rw [World.size_alloc]; omega)).trans (heap_alloc_new W _)
  · have h := heap_alloc_new (W.alloc (.cells x t)) (.cells y u)
    rwa [World.size_alloc] at h
set_option maxRecDepth 100000 in
set_option maxHeartbeats 1000000 in
theorem refSame8_any (A B : Option Addr) (l m : List UInt8) (c d : Nat) (s1 b1 s2 b2 : Int) (W : World) (hr : Rd W W.heap.size A l) (hs : Rd W W.heap.size B m) :
    Calls Try.prog 27 #[.agg #[.slice A l.length c, .int .i64 s1, .int .i64 b1], .agg #[.slice B m.length d, .int .i64 s2, .int .i64 b2]] W fun e W' => e = .returned (.bool (decide (l = m ∧ s1 = s2 ∧ b1 = b2))) ∧ Below W.heap.size W W' := by
  obtain ⟨V, hV, hb, g1, g2⟩ := box2x W #[.slice A l.length c, .int .i64 s1, .int .i64 b1] #[.slice B m.length d, .int .i64 s2, .int .i64 b2] 25 25
  have SM := Lib.hid (same_any A B l m c d _ _ V (hr.go hb) (hs.go hb))
  obtain ⟨x0, x1, x2⟩ := cG3 g1
  obtain ⟨y0, y1, y2⟩ := cG3 g2
  have HB := Lib.hid hb
  have HV := Lib.hid hV
  have e3 : decide (l = m ∧ s1 = s2 ∧ b1 = b2) = (decide (l = m) && decide (s1 = s2) && decide (b1 = b2)) := by
    rw [Bool.eq_iff_iff, Bool.and_eq_true, Bool.and_eq_true, decide_eq_true_iff, decide_eq_true_iff, decide_eq_true_iff, decide_eq_true_iff]
    exact ⟨fun h => ⟨⟨h.1, h.2.1⟩, h.2.2⟩, fun h => ⟨h.1.1, h.1.2, h.2⟩⟩
  rw [e3]
  generalize decide (l = m) = P at *
  generalize l.length = n at *
  generalize m.length = k at *
  clear hr hs hb g1 g2 e3
  rw [hV] at x0 x1 x2 y0 y1 y2
  have f0 := SM.out
  rw [hV] at f0
  have F0 := Lib.hid f0
  clear f0 SM hV
  go_enter Try.func27, Try.ntmps27
  go_wp2_with fail
  refine F0.out.mono ?_
  rintro e w ⟨rfl, rfl⟩
  clear F0
  cases P with
  | false =>
    go_wp2
    go_ret
    exact ⟨by simp, by rw [← HV.out]; exact HB.out⟩
  | true =>
    by_cases h1 : s1 = s2
    · subst h1
      go_wp2
      go_ret
      refine ⟨?_, by rw [← HV.out]; exact HB.out⟩
      by_cases h2 : b1 = b2
      · subst h2; simp
      · simp [h2]
    · go_wp2
      go_ret
      exact ⟨by simp [h1], by rw [← HV.out]; exact HB.out⟩

set_option maxRecDepth 100000 in
/-- the number that two bytes tell, as the walk reckons it -/
theorem nF_of {b : List UInt8} (h : 2 ≤ b.length) : nF b = 256 * (b[0]'(by omega)).toNat + (b[1]'(by omega)).toNat := by
  match b, h with
  | x :: y :: r, _ => rfl
set_option maxRecDepth 100000 in
set_option maxHeartbeats 2000000 in
theorem refRight8_any (A : Option Addr) (l : List UInt8) (c : Nat) (s b : Int) (W : World) (hr : Rd W W.heap.size A l) :
    Calls Try.prog 29 #[.agg #[.slice A l.length c, .int .i64 s, .int .i64 b]] W fun e W' => e = .returned (.bool (decide (RightFd ⟨l, s, b⟩))) ∧ Below W.heap.size W W' := by
  obtain ⟨R, hR⟩ : ∃ R, R = decide (RightFd ⟨l, s, b⟩) := ⟨_, rfl⟩
  rw [← hR]
  have HR := Lib.hid hR
  have HLL := Lib.hid (show ∀ n, n = l.length → n = l.length from fun _ h => h)
  have hb := (Below.refl W.heap.size W).alloc (Nat.le_refl _) (.cells #[.slice A l.length c, .int .i64 s, .int .i64 b] 25)
  have hg := heap_alloc_new W (.cells #[.slice A l.length c, .int .i64 s, .int .i64 b] 25)
  obtain ⟨V, hV⟩ : ∃ V, V = W.alloc (.cells #[.slice A l.length c, .int .i64 s, .int .i64 b] 25) := ⟨_, rfl⟩
  rw [← hV] at hb hg
  obtain ⟨x0, x1, x2⟩ := cG3 hg
  have hrV := hr.go hb
  have HB := Lib.hid hb
  have HV := Lib.hid hV
  clear hR hb hg hr
  by_cases h1 : s < 0
  · have HF := Lib.hid (show R = false by rw [HR.out]; exact decide_eq_false (fun h => by have := h.1; simp only at this; omega))
    clear HR HLL hrV
    generalize l.length = n at *
    rw [hV] at x0 x1 x2
    clear hV
    go_enter Try.func29, Try.ntmps29
    go_wp2
    go_ret
    exact ⟨by rw [HF.out]; rfl, by rw [← HV.out]; exact HB.out⟩
  by_cases h2 : 65535 < s
  · have HF := Lib.hid (show R = false by rw [HR.out]; exact decide_eq_false (fun h => by have := h.2.1; simp only at this; omega))
    clear HR HLL hrV
    generalize l.length = n at *
    rw [hV] at x0 x1 x2
    clear hV
    go_enter Try.func29, Try.ntmps29
    go_wp2
    go_ret
    exact ⟨by rw [HF.out]; rfl, by rw [← HV.out]; exact HB.out⟩
  by_cases h3 : 0 < s ∧ 0 < l.length
  · have HF := Lib.hid (show R = false by rw [HR.out]; exact decide_eq_false (fun h => by have := h.2.2.1 h3.1; simp only at this; omega))
    have i1 : (0 : Int) < (l.length : Int) := by omega
    obtain ⟨i2, -⟩ := h3
    clear HR HLL hrV
    generalize l.length = n at *
    rw [hV] at x0 x1 x2
    clear hV
    go_enter Try.func29, Try.ntmps29
    go_wp2
    go_ret
    exact ⟨by rw [HF.out]; rfl, by rw [← HV.out]; exact HB.out⟩
  have HOK := Lib.hid (show (0 : Int) ≤ s ∧ s ≤ 65535 ∧ (0 < s → l.length = 0) from ⟨by omega, by omega, fun h => by omega⟩)
  have i3 : ¬ (0 < s ∧ (0 : Int) < (l.length : Int)) := by omega
  have j3 : (decide (0 < s) && decide ((0 : Int) < (l.length : Int))) = false := by
    rw [← Bool.decide_and]; exact decide_eq_false i3
  by_cases h4 : l.length < 2
  · have HF := Lib.hid (show R = true by rw [HR.out]; exact decide_eq_true ⟨HOK.out.1, HOK.out.2.1, HOK.out.2.2, .inl h4⟩)
    have i4 : (l.length : Int) < 2 := by omega
    clear HR HLL hrV HOK
    generalize l.length = n at *
    rw [hV] at x0 x1 x2
    clear hV h3
    by_cases h5 : 0 < s
    · have i5 : ¬ (0 : Int) < (n : Int) := by omega
      clear i3 j3
      go_enter Try.func29, Try.ntmps29
      go_wp2
      go_ret
      exact ⟨by rw [HF.out]; rfl, by rw [← HV.out]; exact HB.out⟩
    · clear i3 j3
      go_enter Try.func29, Try.ntmps29
      go_wp2
      go_ret
      exact ⟨by rw [HF.out]; rfl, by rw [← HV.out]; exact HB.out⟩
  have h5 : ¬ 0 < s := fun h => by have := HOK.out.2.2 h; omega
  obtain ⟨bb, oo, rfl, hbb, hcc⟩ := hrV (by omega)
  have c0 := hcc 0 (by omega)
  have c1 := hcc 1 (by omega)
  rw [Nat.add_zero] at c0
  have hn := nF_of (b := l) (by omega)
  obtain ⟨p, hp⟩ : ∃ p, p = (l[0]'(by omega)).toNat := ⟨_, rfl⟩
  obtain ⟨q, hq⟩ : ∃ p, p = (l[1]'(by omega)).toNat := ⟨_, rfl⟩
  have p8 : p < 256 := by rw [hp]; exact (l[0]'(by omega)).toNat_lt
  have q8 : q < 256 := by rw [hq]; exact (l[1]'(by omega)).toNat_lt
  rw [← hp, ← hq] at hn
  rw [← hp] at c0
  rw [← hq] at c1
  have HF := Lib.hid (show R = (decide (1 ≤ 256 * p + q) && decide (256 * p + q ≤ 1024) && decide (l.length < 256 * p + q + 2)) by
    rw [HR.out, Bool.eq_iff_iff, Bool.and_eq_true, Bool.and_eq_true, decide_eq_true_iff, decide_eq_true_iff, decide_eq_true_iff, decide_eq_true_iff]
    constructor
    · rintro ⟨-, -, -, h | ⟨e1, e2, e3⟩⟩
      · exact absurd h h4
      · simp only [hn] at e1 e2 e3
        exact ⟨⟨e1, e2⟩, e3⟩
    · rintro ⟨⟨e1, e2⟩, e3⟩
      exact ⟨HOK.out.1, HOK.out.2.1, HOK.out.2.2, .inr ⟨by rw [hn]; exact e1, by rw [hn]; exact e2, by rw [hn]; exact e3⟩⟩)
  have i4 : ¬ (l.length : Int) < 2 := by omega
  have i6 : (0 : Int) < (l.length : Int) := by omega
  have i7 : (1 : Int) < (l.length : Int) := by omega
  obtain ⟨N, hN⟩ : ∃ N, N = 256 * p + q := ⟨_, rfl⟩
  have i8 : 256 * (p : Int) + (q : Int) = (N : Int) := by omega
  rw [← hN] at HF
  have hNb : N ≤ 65535 := by omega
  clear HR HLL HOK hn hcc hp hq hN i3 j3 h3
  generalize l.length = n at *
  rw [hV] at x0 x1 x2 c0 c1
  clear hV
  go_enter Try.func29, Try.ntmps29
  go_wp2
  go_quiet (fail)
  by_cases k1 : 1 ≤ N
  · have m1 : (1 : Int) ≤ (N : Int) := by omega
    by_cases k2 : N ≤ 1024
    · have m2 : (N : Int) ≤ 1024 := by omega
      by_cases k3 : n < N + 2
      · have m3 : (n : Int) < (N : Int) + 2 := by omega
        go_wp2
        go_ret
        exact ⟨by rw [HF.out, decide_eq_true k1, decide_eq_true k2, decide_eq_true k3]; rfl, by rw [← HV.out]; exact below_drewN HB.out _⟩
      · have m3 : ¬ (n : Int) < (N : Int) + 2 := by omega
        go_wp2
        go_ret
        exact ⟨by rw [HF.out, decide_eq_true k1, decide_eq_true k2, decide_eq_false k3]; rfl, by rw [← HV.out]; exact below_drewN HB.out _⟩
    · have m2 : ¬ (N : Int) ≤ 1024 := by omega
      go_wp2
      go_ret
      exact ⟨by rw [HF.out, decide_eq_true k1, decide_eq_false k2]; rfl, by rw [← HV.out]; exact below_drewN HB.out _⟩
  · have m1 : ¬ (1 : Int) ≤ (N : Int) := by omega
    go_wp2
    go_ret
    exact ⟨by rw [HF.out, decide_eq_false k1]; rfl, by rw [← HV.out]; exact below_drewN HB.out _⟩
end Go.Proofs.Ytplekllhnpljiaa
/- append(x, make([]byte, n)...) onto a slice of the call's own, whether there is room or not; stores into it. -/

namespace Go.Proofs.Ytplekllhnpljiaa
open Go.RowKit

set_option maxRecDepth 100000 in
theorem zeroCells_cs (Z : Nat) : (Builtin.zeroCells (Value.int .u8 0).cells Z).toList = cs (List.replicate Z 0) := by
  apply List.ext_getElem?
  intro j
  by_cases hj : j < Z
  · simp [Builtin.zeroCells, cs, Value.cells, hj, Nat.mod_one]
  · simp [Builtin.zeroCells, cs, Value.cells, hj, Nat.mod_one]
set_option maxRecDepth 100000 in
theorem run_appZG (ty : TypeId) (w : World) (base g n cap : Nat) (l : List UInt8) (Z : Nat) (h : Ow w base (.slice (some ⟨g, 0, none⟩) n cap) l) (h0 : 0 < Z) (hZ : Z ≤ 100000) (hl : l.length ≤ 100000) (hbase : base ≤ w.heap.size) :
    ∃ v' w', (Builtin.append_ #[23, 3] ty #[.slice (some ⟨g, 0, none⟩) n cap, .int .i64 Z]).run Try.prog w = .ok v' w' ∧ Ow w' base v' (l ++ List.replicate Z 0) ∧ w.grownBy w' (some g) := by
  obtain ⟨i0, hi, hz0, hz1, hz2⟩ := info_parts info5
  obtain ⟨hcl, hh⟩ := h
  rcases hh with ⟨e, _⟩ | ⟨g', cap', cur, e, hbg, hg, hnc, hcm, hcs, htake⟩
  · cases e
  cases e
  have hlen : (l ++ List.replicate Z (0 : UInt8)).length = l.length + Z := by simp
  have hcsl : (cs (l ++ List.replicate Z 0)).length = l.length + Z := by rw [cs_length, hlen]
  by_cases hroom : l.length + Z ≤ cap
  · have hst := run_storeCells_at Try.prog g (l.length * i0.size) 5 (cs (List.replicate Z 0)) 0 cur w hg (by rw [cs_length, List.length_replicate, hcs, hz1]; omega) (cs_one _)
    simp only [Nat.add_zero] at hst
    have hw : IntKind.i64.wrap (Z : Int) = Z := by rw [IntKind.wrap_i64]; omega
    have hneg : ¬ ((Z : Int) < 0) := by omega
    have hns : ¬ (Z * i0.size = 0) := by rw [hz1]; omega
    have h48 : ¬ (281474976710656 < (Z : Int) * (i0.bytes : Int)) := by rw [hz2]; omega
    have hzz := zeroCells_cs Z
    have hrun : (Builtin.append_ #[23, 3] ty #[.slice (some ⟨g, 0, none⟩) l.length cap, .int .i64 Z]).run Try.prog w = .ok (.slice (some ⟨g, 0, none⟩) (l.length + Z) cap) (w.setRow g (cur.toList.take (l.length * i0.size) ++ cs (List.replicate Z 0) ++ cur.toList.drop (l.length * i0.size + (cs (List.replicate Z 0)).length)).toArray) := by
      simp [Builtin.append_, run_underlying Try.underlying23, run_underlying Try.underlying3, sizeOf, typeInfo, zeroValue, hi, hz0, asInt, asIntOf, hw, hneg, hns, h48, hroom, Addr.add_lit, hzz, hst]
    refine ⟨_, _, hrun, ⟨by simp [cs], .inr ⟨g, cap, _, by rw [hlen], hbg, setRow_heap w g cur _ _ _ hg, by rw [hlen]; exact hroom, hcm, ?_, ?_⟩⟩, ⟨rfl, rfl, rfl, by simp, fun k _ hk => setRow_other w g k _ (fun e => hk (by simp [e]))⟩⟩
    · simp only [List.size_toArray, List.length_append, List.length_take, List.length_drop, Array.length_toList, cs_length, List.length_replicate]
      rw [hz1]
      omega
    · rw [hz1, htake, ← cs_append, hlen, Nat.mul_one, ← hcsl]
      exact List.take_left
  · have holds : ∀ j u, (cs l)[j]? = some u → w.drew.cell? ((⟨g, 0, none⟩ : Addr).add j) = some u := World.ownsRow.cells (w := w) (v := .slice (some ⟨g, 0, none⟩) l.length cap) (n := l.length) (size := 1) (base := base) (e := 5) ⟨hcl, .inr ⟨g, cap, cur, rfl, hbg, hg, hnc, hcm, hcs, htake⟩⟩ (g := g) rfl
    have hf := run_firstCells_some (P := Try.prog) w.drew i0.size l.length ⟨g, 0, none⟩ l.length cap (cs l) (by rw [hz1, cs_length, Nat.mul_one]) holds
    have hrun := Lib.run_append_grow_zeros (P := Try.prog) w 23 3 ty 5 i0 (.int .u8 0) .i64 .i64 Try.underlying23 Try.underlying3 hi hz0 (some ⟨g, 0, none⟩) l.length cap (cs l) hf Z h0 (by rw [hz1]; omega) (by omega) (by omega) (by rw [hz2]; omega) (by rw [hz2]; exact growslice_fits (by omega) (by omega))
    have hge := grownCap_ge w (l.length + Z) cap 5
    have hcm2 : grownCap w (l.length + Z) cap 5 ≤ maxLen := grownCap_le_maxLen w (l.length + Z) cap 5 (by unfold maxLen; omega)
    have hzc : (Value.int .u8 0).cells.size = 1 := rfl
    refine ⟨_, _, hrun, ⟨by simp [cs], .inr ⟨w.heap.size, _, _, by rw [hlen], hbase, heap_alloc_new w.drew _, by rw [hlen]; exact hge, hcm2, ?_, ?_⟩⟩, ⟨rfl, rfl, rfl, by simp, fun k hk _ => heap_alloc_old w.drew _ hk⟩⟩
    · simp only [Array.size_append, List.size_toArray, size_zeroCells, hzc, cs_length]
      omega
    · simp only [Array.toList_append, zeroCells_cs]
      rw [← cs_append, hlen, Nat.mul_one, ← hcsl]
      exact List.take_left
set_option maxRecDepth 100000 in
theorem wpList_appZG {ops : Array Oper} {rest : List Oper} {o : Oper} {a : Act} {Q : Exit → Act → World → Prop} (w : World) (hw : Region.wanted o (yielded ops a.tmps) = true) (s y : Operand)
    (ho : o.op = .call { callee := .builtin .append, args := #[s, y], argTypes := #[23, 3] })
    (base g n cap : Nat) (l : List UInt8) (Z : Nat) (hs : a.eval s = .slice (some ⟨g, 0, none⟩) n cap) (hy : a.eval y = .int .i64 Z) (h : Ow w base (.slice (some ⟨g, 0, none⟩) n cap) l) (h0 : 0 < Z) (hZ : Z ≤ 100000) (hl : l.length ≤ 100000) (hbase : base ≤ w.heap.size)
    (hK : ∀ v' w', Ow w' base v' (l ++ List.replicate Z 0) → w.grownBy w' (some g) → wpList Try.prog ops Q rest (a.put o.dst v') w') : wpList Try.prog ops Q (o :: rest) a w :=
  BigFrame.wpList_want hw fun K hK' => by
    obtain ⟨v', w', hr, h2, h3⟩ := run_appZG o.type w base g n cap l Z h h0 hZ hl hbase
    exact Lib.wp_append_run w s y 23 3 ho _ _ hs hy v' w' hr (hK' _ _ (hK v' w' h2 h3))
set_option maxRecDepth 100000 in
theorem Ow.setG {w : World} {base g n cap : Nat} {l : List UInt8} (h : Ow w base (.slice (some ⟨g, 0, none⟩) n cap) l) (i : Nat) (z : UInt8) :
    Ow (w.setCell ⟨g, i, none⟩ (.int .u8 (z.toNat : Int))) base (.slice (some ⟨g, 0, none⟩) n cap) (l.set i z) := by
  refine ⟨by simp [cs], ?_⟩
  rcases h.2 with ⟨e, _⟩ | ⟨g', cap', cur, e, hb, hg, hn, hcap, hsz, htake⟩
  · cases e
  · cases e
    refine .inr ⟨g, cap, cur.setIfInBounds i (.int .u8 (z.toNat : Int)), by rw [List.length_set], hb, ?_, by rw [List.length_set]; exact hn, hcap, by rw [Array.size_setIfInBounds]; exact hsz, ?_⟩
    · exact heap_setCell_same w g i _ _ _ hg
    · rw [List.length_set, Array.toList_setIfInBounds, List.take_set, htake]
      simp [cs, List.map_set]
set_option maxRecDepth 100000 in
theorem Ow.thawG {w : World} {base g n cap : Nat} {l : List UInt8} (h : Ow w base (.slice (some ⟨g, 0, none⟩) n cap) l) (i : Nat) : w.frozen? ⟨g, i, none⟩ = false := by
  rcases h.2 with ⟨e, _⟩ | ⟨g', cap', cur, e, hb, hg, _⟩
  · cases e
  · cases e
    exact frozen_of_row w g i _ _ hg
set_option maxRecDepth 100000 in
theorem Ow.cellG {w : World} {base g n cap : Nat} {l : List UInt8} (h : Ow w base (.slice (some ⟨g, 0, none⟩) n cap) l) (i : Nat) (hi : i < l.length) : w.cell? ⟨g, i, none⟩ = some (.int .u8 (l[i].toNat : Int)) := by
  have := World.ownsRow.cells h (g := g) rfl i _ (cs_get l i hi)
  rwa [Addr.add_lit, Nat.zero_add] at this
set_option maxRecDepth 100000 in
theorem Ow.rdG {w : World} {base g n cap : Nat} {l : List UInt8} (h : Ow w base (.slice (some ⟨g, 0, none⟩) n cap) l) : Rd w w.heap.size (some ⟨g, 0, none⟩) l := by
  obtain ⟨A, c, e, _, _, hr⟩ := h.form
  cases e
  exact hr
set_option maxRecDepth 100000 in
theorem Ow.callG {w w' : World} {base : Nat} {v : Value} {l : List UInt8} (h : Ow w base v l) (hb : Below w.heap.size w w') : Ow w' base v l := by
  refine ⟨h.1, ?_⟩
  rcases h.2 with h0 | ⟨g, cap, cur, e, hbg, hg, hn, hcap, hsz, htake⟩
  · exact .inl h0
  · exact .inr ⟨g, cap, cur, e, hbg, oldG hg hb (Nat.le_refl _), hn, hcap, hsz, htake⟩
set_option maxRecDepth 100000 in
theorem Ow.bdG {w : World} {base g n cap : Nat} {l : List UInt8} (h : Ow w base (.slice (some ⟨g, 0, none⟩) n cap) l) : n = l.length ∧ l.length ≤ cap ∧ cap ≤ 9223372036854775807 ∧ base ≤ g ∧ g < w.heap.size := by
  rcases h.2 with ⟨e, _⟩ | ⟨g', cap', cur, e, hb, hg, hn, hcap, hsz, htake⟩
  · cases e
  · cases e
    exact ⟨rfl, hn, by simpa [maxLen] using hcap, hb, (Array.getElem?_eq_some_iff.1 hg).1⟩
end Go.Proofs.Ytplekllhnpljiaa
