
/- Appending to a slice that is full: the bytes lie in a new block. -/
import Derived.Test.YtjkkceecagbjjaaJ01
namespace Go.Proofs.Ytjkkceecagbjjaa
open Go.RowKit

set_option maxRecDepth 100000 in
theorem Ow.of_row {w : World} {base g n : Nat} {l : List UInt8} (hb : base ≤ g) (hl : l.length = n) (hn : n ≤ 1000000) (h : w.heap[g]? = some (.cells (cs l).toArray 5 (0, 0))) : Ow w base (.slice (some ⟨g, 0, none⟩) n n) l := by
  subst hl
  refine ⟨by simp [cs], .inr ⟨g, l.length, (cs l).toArray, rfl, hb, h, Nat.le_refl _, by unfold maxLen; omega, by simp [cs], ?_⟩⟩
  rw [List.take_of_length_le (by simp [cs])]
set_option maxRecDepth 100000 in
/-- appending to a slice that is full: the bytes lie in a new block -/
theorem run_appG (ty : TypeId) (w : World) (b : Addr) (l news : List UInt8) (A : Option Addr) (n m c B B' : Nat) (hn : n = l.length) (hm : m = news.length) (hl : Rd w B (some b) l) (hr : Rd w B' A news) (h0 : 0 < l.length) (h1 : 0 < news.length) (hlen : l.length + news.length ≤ 1000000) :
    ∃ v' w', (Builtin.append_ #[23, 23] ty #[.slice (some b) n n, .slice A m c]).run Try.prog w = .ok v' w' ∧ Ow w' w.heap.size v' (l ++ news) ∧ Below w.heap.size w w' := by
  subst hn hm
  obtain ⟨i0, hi, hz0, hz1, hz2⟩ := info_parts info5
  obtain ⟨b1, o1, e1, -, hc1⟩ := hl h0
  cases e1
  obtain ⟨b2, o2, rfl, -, hc2⟩ := hr h1
  have hold : ∀ j v, (cs l)[j]? = some v → w.cell? ((⟨b1, o1, none⟩ : Addr).add j) = some v := by
    intro j u hu
    have hj : j < l.length := by
      have := (List.getElem?_eq_some_iff.1 hu).1
      simpa [cs] using this
    rw [cs_get l j hj] at hu
    rw [Addr.add_lit, hc1 j hj]
    exact hu
  have hnew : ∀ j v, (cs news)[j]? = some v → w.cell? ((⟨b2, o2, none⟩ : Addr).add j) = some v := by
    intro j u hu
    have hj : j < news.length := by
      have := (List.getElem?_eq_some_iff.1 hu).1
      simpa [cs] using this
    rw [cs_get news j hj] at hu
    rw [Addr.add_lit, hc2 j hj]
    exact hu
  have hrun := run_append_grow (P := Try.prog) w 23 ty 5 i0 (.int .u8 0) Try.underlying23 hi hz0 ⟨b1, o1, none⟩ l.length l.length (cs l) (by simp [cs, hz1]) hold ⟨b2, o2, none⟩ news.length c (cs news) (by simp [cs, hz1]) hnew (by omega) (by omega) (by rw [hz2]; exact growslice_fits (by omega) (by omega))
  have hge := grownCap_ge w (l.length + news.length) l.length 5
  have hcm : grownCap w (l.length + news.length) l.length 5 ≤ maxLen := grownCap_le_maxLen w (l.length + news.length) l.length 5 (by unfold maxLen; omega)
  have hzc : (Value.int .u8 0).cells.size = 1 := rfl
  refine ⟨_, _, hrun, ⟨by simp [cs], .inr ⟨w.heap.size, _, _, by rw [List.length_append], Nat.le_refl _, heap_alloc_new w.drew _, by rw [List.length_append]; exact hge, hcm, ?_, ?_⟩⟩, (Below.refl _ _).drew.alloc (Nat.le_refl _) _⟩
  · simp only [Array.size_append, List.size_toArray, size_zeroCells, hzc, cs_length]
    omega
  · simp only [Array.toList_append, List.append_assoc]
    rw [← List.append_assoc, ← cs_append, show (l ++ news).length * 1 = (cs (l ++ news)).length by rw [cs_length, Nat.mul_one]]
    exact List.take_left
set_option maxRecDepth 100000 in
theorem wp_appG {o : Oper} {a : Act} {K : Act → World → Prop} {Q : Exit → Act → World → Prop} (w : World) (s x : Operand)
    (ho : o.op = .call { callee := .builtin .append, args := #[s, x], argTypes := #[23, 23] })
    (b : Addr) (l news : List UInt8) (A : Option Addr) (n m c B B' : Nat) (hs : a.eval s = .slice (some b) n n) (hx : a.eval x = .slice A m c) (hn : n = l.length) (hm : m = news.length) (hl : Rd w B (some b) l) (hr : Rd w B' A news) (h0 : 0 < l.length) (h1 : 0 < news.length) (hlen : l.length + news.length ≤ 1000000)
    (hK : ∀ v' w', Ow w' w.heap.size v' (l ++ news) → Below w.heap.size w w' → K (a.put o.dst v') w') : o.wp Try.prog a w K Q := by
  obtain ⟨v', w', hr, h2, h3⟩ := run_appG o.type w b l news A n m c B B' hn hm hl hr h0 h1 hlen
  unfold Oper.wp execOp
  simp only [ho, resolve, invoke, builtin, Sem.run_bind, Sem.run_pure, Result.andThen_ok, List.map_toArray, List.map_cons, List.map_nil, hs, hx, hr]
  exact hK v' w' h2 h3
set_option maxRecDepth 100000 in
theorem wpList_appG {ops : Array Oper} {rest : List Oper} {o : Oper} {a : Act} {Q : Exit → Act → World → Prop} (w : World) (hw : Region.wanted o (yielded ops a.tmps) = true) (s x : Operand)
    (ho : o.op = .call { callee := .builtin .append, args := #[s, x], argTypes := #[23, 23] })
    (b : Addr) (l news : List UInt8) (A : Option Addr) (n m c B B' : Nat) (hs : a.eval s = .slice (some b) n n) (hx : a.eval x = .slice A m c) (hn : n = l.length) (hm : m = news.length) (hl : Rd w B (some b) l) (hr : Rd w B' A news) (h0 : 0 < l.length) (h1 : 0 < news.length) (hlen : l.length + news.length ≤ 1000000)
    (hK : ∀ v' w', Ow w' w.heap.size v' (l ++ news) → Below w.heap.size w w' → wpList Try.prog ops Q rest (a.put o.dst v') w') : wpList Try.prog ops Q (o :: rest) a w :=
  BigFrame.wpList_want hw fun _ hK' => wp_appG w s x ho b l news A n m c B B' hs hx hn hm hl hr h0 h1 hlen fun v' w' h2 h3 => hK' _ _ (hK v' w' h2 h3)
end Go.Proofs.Ytjkkceecagbjjaa
