
/- prov.entries: a table's pairs, one by one. -/
import Derived.RangeFuncNested
import Derived.RangeFuncBound
import Derived.RangeFuncCalls
import Derived.RangeFuncLeaves
import Derived.Shelf.Abstract
import Derived.Shelf.RegionOpen
import Derived.WalkKit
import Derived.OwnWalkIn
import Derived.TacticsInMore
import Derived.LoopNIn
import Derived.LoopIn
import Derived.Test.YtcfncbbdlbdbnaaDoorPrB
namespace Go.Proofs.YtcfncbbdlbdbnaaDoor
open Go.RowKit Go.Shelf
attribute [local go_sem] Oper.semAt_some

theorem eps_snoc {α : Type} (xs : List α) (k : Nat) (h : k < xs.length) : xs.take (k + 1) = xs.take k ++ [xs[k]] := by
  rw [List.take_succ_eq_append_getElem h]

set_option maxRecDepth 100000 in
set_option maxHeartbeats 2000000 in
theorem entries1_in (F : Fence) (n : Nat) (h37 : F.fn 37) (hro : F.round = none) (hn : 1 ≤ n) (l Bs n₀ b o len cap : Nat) (w0 : World) (xs : List (Ep w0 n₀)) (hlen : xs.length = len) (h1000 : len ≤ 1000) (hb : b < n₀) (J Jx : List (Ep w0 n₀) → World → Prop) (W : World) (hn0 : n₀ ≤ W.heap.size) (hJ : AbidesFrom W.heap.size J)
    (hY : ∀ pre x W1, J pre W1 → pre.length < len → YieldAt F (n - 1) Tryd.prog l #[x.1.1] W1 fun e W' =>
      (e = .returned (.bool true) ∧ J (pre ++ [x]) W' ∧ Below n₀ W1 W') ∨ (e = .returned (.bool false) ∧ Jx (pre ++ [x]) W'))
    (hBs : W.cell? ⟨Bs, 0, none⟩ = some (.slice (some ⟨b, o, none⟩) len cap))
    (hc : ∀ j (hj : j < xs.length), ∃ A1 n1 c1 A2 n2 c2, xs[j].1.1 = .agg #[.slice A1 n1 c1, .slice A2 n2 c2] ∧ W.cell? ⟨b, o + j * 2, none⟩ = some (.slice A1 n1 c1) ∧ W.cell? ⟨b, o + j * 2 + 1, none⟩ = some (.slice A2 n2 c2)) (h0 : J [] W) :
    CallsIn F n Tryd.prog 37 #[.func (.yield l) #[] #[], .pointer (some ⟨Bs, 0, none⟩)] W fun e W' => (∃ v, e = .returned v) ∧
      ((∃ ys, ys = xs ∧ J ys W') ∨ (∃ pre, pre <+: xs ∧ Jx pre W')) := by
  have hf2 := fold2
  have HL := Lib.hid hlen
  have HC := Lib.hid hc
  clear hc hlen
  refine callsIn_of_wp Tryd.func37 rfl h37 ?_ hro
  simp only [Tryd.ntmps37, List.size_toArray, List.length_cons, List.length_nil, Nat.reduceAdd, Nat.reduceSub, Array.replicate_succ, Array.replicate_zero, List.push_toArray, List.append_toArray, List.nil_append, List.cons_append]
  gi_wp2
  gi_loopw [7] (fun i wr => ∃ k : Nat, k ≤ len ∧ i = .int .i64 k ∧ J (xs.take k) wr ∧ Below n₀ W wr)
    (fun i _ => len - (intOf i).toNat)
  case atStart => exact ⟨0, Nat.zero_le _, rfl, h0, Below.refl _ _⟩
  case round =>
    obtain ⟨k, hk, rfl, hJs, hnx⟩ := hrel
    by_cases hlt : k < len
    · have hkx : k < xs.length := by rw [HL.out]; exact hlt
      obtain ⟨A1, n1, c1, A2, n2, c2, hv, hc0, hc1⟩ := HC.out k hkx
      have hcx0 := (hnx.cell (p := ⟨b, o + k * 2, none⟩) hb).trans hc0
      have hcx1 := (hnx.cell (p := ⟨b, o + k * 2 + 1, none⟩) hb).trans hc1
      have hsz := hnx.size
      have hJa : J (xs.take k) (wr.alloc (.cells #[.slice A1 n1 c1, .slice A2 n2 c2] 59)) := hJ _ _ _ none hJs (World.grownBy_alloc wr _ none) (fun r e => by cases e)
      obtain ⟨fn, tmps, assign, body, hy, hR⟩ := hY _ xs[k] _ hJa (by rw [List.length_take]; omega)
      rw [hv] at hy
      rw [← eps_snoc xs k hkx] at hR
      have hbn : Below n₀ wr (wr.alloc (.cells #[.slice A1 n1 c1, .slice A2 n2 c2] 59)) := (Below.refl _ wr).alloc (Nat.le_trans hn0 hsz) _
      gi_wp2
      refine hR.mono ?_
      rintro e W3 (⟨rfl, hJ3, hk3⟩ | ⟨rfl, hJx3⟩)
      · gi_wp2
        go_roundw
        case rel => exact ⟨k + 1, by omega, by go_num, hJ3, (hnx.trans hbn).trans hk3⟩
        case measure => simp [intOf]; omega
      · gi_wp2
        refine bodyPost_ret (results_none rfl _ _ _) rfl ?_
        exact ⟨⟨_, rfl⟩, .inr ⟨_, List.take_prefix _ _, hJx3⟩⟩
    · obtain rfl : k = len := by omega
      have hall : xs.take k = xs := List.take_of_length_le (by rw [HL.out]; omega)
      gi_wp2
      go_end0
      exact ⟨⟨_, rfl⟩, .inl ⟨_, hall, hJs⟩⟩

set_option maxRecDepth 100000 in
set_option maxHeartbeats 1000000 in
theorem entries1_nil_in (F : Fence) (n : Nat) (h37 : F.fn 37) (hro : F.round = none) (l Bs cap : Nat) (A : Option Addr) (J : World → Prop) (W : World) (hBs : W.cell? ⟨Bs, 0, none⟩ = some (.slice A 0 cap)) (h0 : J W) :
    CallsIn F n Tryd.prog 37 #[.func (.yield l) #[] #[], .pointer (some ⟨Bs, 0, none⟩)] W fun e W' => (∃ v, e = .returned v) ∧ J W' := by
  refine callsIn_of_wp Tryd.func37 rfl h37 ?_ hro
  simp only [Tryd.ntmps37, List.size_toArray, List.length_cons, List.length_nil, Nat.reduceAdd, Nat.reduceSub, Array.replicate_succ, Array.replicate_zero, List.push_toArray, List.append_toArray, List.nil_append, List.cons_append]
  gi_wp2
  gi_loopw [7] (fun i wr => i = .int .i64 0 ∧ J wr) (fun _ _ => 0)
  case atStart => exact ⟨rfl, h0⟩
  case round =>
    obtain ⟨rfl, hJs⟩ := hrel
    gi_wp2
    go_end0
    exact ⟨⟨_, rfl⟩, hJs⟩

set_option maxRecDepth 100000 in
set_option maxHeartbeats 1000000 in
theorem entries_in (F : Fence) (n : Nat) (h29 : F.fn 29) (hro : F.round = none) (a : Option Addr) (len cap : Nat) (w : World) :
    CallsIn F n Tryd.prog 29 #[.slice a len cap] w fun e w' => e = .returned (.func (.func 37) #[] #[.pointer (some ⟨w.heap.size, 0, none⟩)]) ∧ w' = w.alloc (.cells #[.slice a len cap] 22) := by
  refine callsIn_of_wp Tryd.func29 rfl h29 ?_ hro
  simp only [Tryd.ntmps29, List.size_toArray, List.length_cons, List.length_nil, Nat.reduceAdd, Nat.reduceSub, Array.replicate_succ, Array.replicate_zero, List.push_toArray, List.append_toArray, List.nil_append, List.cons_append]
  gi_wp2
  go_ret
  exact ⟨rfl, rfl⟩

/-- entries hands back all pairs, or the first ones -/
theorem entries_stops (F : Fence) (n : Nat) (h37 : F.fn 37) (hro : F.round = none) (hn : 1 ≤ n) (Bs : Nat) (A : Option Addr) (l : List Pr) (cap : Nat) (h1000 : l.length ≤ 1000) (w0 w : World) (hBs : Bs < w.heap.size) (hbl : Below w0.heap.size w0 w)
    (hc : w.cell? ⟨Bs, 0, none⟩ = some (.slice A l.length cap)) (hT : Tab w0 w0.heap.size A l) :
    SeqStopsK F n Tryd.prog 37 #[.pointer (some ⟨Bs, 0, none⟩)] (fun x : Ep w0 w0.heap.size => #[x.1.1]) (Below w0.heap.size) (fun ys => ys.map (fun x => x.1.2) = l) (fun pre => pre.map (fun x => x.1.2) <+: l) l.length w := fun lo J Jx W hW hJ _ hY h0 => by
  have hc' := (hW.cell (p := ⟨Bs, 0, none⟩) hBs).trans hc
  rcases Nat.eq_zero_or_pos l.length with hz | hp
  · obtain rfl : l = [] := List.eq_nil_of_length_eq_zero hz
    exact (entries1_nil_in F n h37 hro lo Bs cap A (J []) W hc' h0).mono fun e W' ⟨he, hj⟩ => ⟨he, .inl ⟨[], rfl, hj⟩⟩
  · obtain ⟨b, o, rfl, hb, hrow⟩ := hT hp
    obtain ⟨xs, hxl, hxs⟩ := tab_eps hrow
    have hmap : xs.map (fun x => x.1.2) = l := by
      apply List.ext_getElem
      · simpa using hxl
      · intro i h1 h2
        simp only [List.getElem_map]
        exact (hxs i (by simpa using h1) h2).1
    have hW0 : Below w0.heap.size w0 W := hbl.trans (hW.mono hbl.size)
    refine (entries1_in F n h37 hro hn lo Bs w0.heap.size b o l.length cap w0 xs hxl h1000 hb J Jx W hW0.size hJ hY hc' ?_ h0).mono ?_
    · intro j hj
      obtain ⟨_, A1, n1, c1, A2, n2, c2, e, k0, k1⟩ := hxs j hj (by omega)
      exact ⟨A1, n1, c1, A2, n2, c2, e, (hW0.cell (p := ⟨b, o + j * 2, none⟩) hb).trans k0, (hW0.cell (p := ⟨b, o + j * 2 + 1, none⟩) hb).trans k1⟩
    · rintro e W' ⟨he, ⟨ys, rfl, hj⟩ | ⟨pre, hpre, hj⟩⟩
      · exact ⟨he, .inl ⟨_, hmap, hj⟩⟩
      · exact ⟨he, .inr ⟨_, by rw [← hmap]; exact List.IsPrefix.map _ hpre, hj⟩⟩
end Go.Proofs.YtcfncbbdlbdbnaaDoor
