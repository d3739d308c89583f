
/- Rows of entries: what the call owns, appending to it; bytes.Clone, slices.Grow. -/
import Derived.Test.YtcfncbbdlbdbnaaDoorPrA
import Derived.Test.YtcfncbbdlbdbnaaDoorSum
import Derived.Lib.AppendZerosOnto
namespace Go.Proofs.YtcfncbbdlbdbnaaDoor
open Go.RowKit

abbrev V2 := Value × Value
/-- an entry's two cells read as a pair -/
def VE (w : World) (B : Nat) (v : V2) (p : Pr) : Prop := ∃ A c A' c', v = (.slice A p.1.length c, .slice A' p.2.length c') ∧ p.1.length ≤ c ∧ c ≤ 9223372036854775807 ∧ p.2.length ≤ c' ∧ c' ≤ 9223372036854775807 ∧ Rd w B A p.1 ∧ Rd w B A' p.2
def VEs (w : World) (B : Nat) (vs : List V2) (l : List Pr) : Prop := vs.length = l.length ∧ ∀ j (h : j < vs.length) (h' : j < l.length), VE w B vs[j] l[j]
theorem VE.below {w w' : World} {B B' : Nat} {v : V2} {p : Pr} (h : VE w B v p) (hb : Below B' w w') (hB : B ≤ B') : VE w' B v p := by
  obtain ⟨A, c, A', c', e, h1, h2, h3, h4, h5, h6⟩ := h
  exact ⟨A, c, A', c', e, h1, h2, h3, h4, h5.below hb hB, h6.below hb hB⟩
theorem VE.more {w : World} {B B' : Nat} {v : V2} {p : Pr} (h : VE w B v p) (hB : B ≤ B') : VE w B' v p := by
  obtain ⟨A, c, A', c', e, h1, h2, h3, h4, h5, h6⟩ := h
  exact ⟨A, c, A', c', e, h1, h2, h3, h4, h5.more hB, h6.more hB⟩
theorem VEs.below {w w' : World} {B B' : Nat} {vs : List V2} {l : List Pr} (h : VEs w B vs l) (hb : Below B' w w') (hB : B ≤ B') : VEs w' B vs l := ⟨h.1, fun j h1 h2 => (h.2 j h1 h2).below hb hB⟩
theorem VEs.more {w : World} {B B' : Nat} {vs : List V2} {l : List Pr} (h : VEs w B vs l) (hB : B ≤ B') : VEs w B' vs l := ⟨h.1, fun j h1 h2 => (h.2 j h1 h2).more hB⟩
theorem VEs.snoc {w : World} {B : Nat} {vs : List V2} {l : List Pr} {v : V2} {p : Pr} (h : VEs w B vs l) (hv : VE w B v p) : VEs w B (vs ++ [v]) (l ++ [p]) := by
  refine ⟨by simp [h.1], fun j h1 h2 => ?_⟩
  by_cases hj : j < vs.length
  · rw [List.getElem_append_left hj, List.getElem_append_left (by rw [← h.1]; exact hj)]
    exact h.2 j hj _
  · have h3 : j = vs.length := by simp at h1; omega
    subst h3
    rw [List.getElem_append_right (Nat.le_refl _), List.getElem_append_right (by rw [h.1]; exact Nat.le_refl _)]
    simpa using hv
/-- the cells at A are the values us -/
def CE (w : World) (B : Nat) (A : Option Addr) (us : List V2) : Prop := 0 < us.length → ∃ b o, A = some ⟨b, o, none⟩ ∧ b < B ∧ ∀ j (h : j < us.length), w.cell? ⟨b, o + j * 2, none⟩ = some us[j].1 ∧ w.cell? ⟨b, o + j * 2 + 1, none⟩ = some us[j].2
theorem CE.below {w w' : World} {B B' : Nat} {A : Option Addr} {us : List V2} (h : CE w B A us) (hb : Below B' w w') (hB : B ≤ B') : CE w' B A us := by
  intro h0
  obtain ⟨b, o, e, h1, h2⟩ := h h0
  exact ⟨b, o, e, h1, fun j hj => ⟨(hb.cell (p := ⟨b, o + j * 2, none⟩) (by show b < B'; omega)).trans (h2 j hj).1, (hb.cell (p := ⟨b, o + j * 2 + 1, none⟩) (by show b < B'; omega)).trans (h2 j hj).2⟩⟩
theorem CE.more {w : World} {B B' : Nat} {A : Option Addr} {us : List V2} (h : CE w B A us) (hB : B ≤ B') : CE w B' A us := by
  intro h0
  obtain ⟨b, o, e, h1, h2⟩ := h h0
  exact ⟨b, o, e, by omega, h2⟩
theorem tab_ce {w : World} {B : Nat} {A : Option Addr} {l : List Pr} (h : Tab w B A l) : ∃ us, us.length = l.length ∧ VEs w B us l ∧ CE w B A us := by
  rcases Nat.eq_zero_or_pos l.length with h0 | h0
  · obtain rfl : l = [] := List.eq_nil_of_length_eq_zero h0
    exact ⟨[], rfl, ⟨rfl, fun j h1 => absurd h1 (by simp)⟩, fun h => absurd h (by simp)⟩
  · obtain ⟨b, o, rfl, hb, hrow⟩ := h h0
    have each : ∀ j : Fin l.length, ∃ v : V2, VE w B v l[j.1] ∧ w.cell? ⟨b, o + j.1 * 2, none⟩ = some v.1 ∧ w.cell? ⟨b, o + j.1 * 2 + 1, none⟩ = some v.2 := by
      intro j
      obtain ⟨A1, c1, A2, c2, f1, f2, f3, f4, f5, f6, f7, f8⟩ := hrow j.1 j.2
      exact ⟨(_, _), ⟨A1, c1, A2, c2, rfl, f3, f4, f5, f6, f7, f8⟩, f1, f2⟩
    obtain ⟨f, hf⟩ := Classical.axiomOfChoice each
    refine ⟨List.ofFn f, by simp, ⟨by simp, fun j h1 h2 => ?_⟩, fun _ => ⟨b, o, rfl, hb, fun j hj => ?_⟩⟩
    · rw [List.getElem_ofFn]; exact (hf ⟨j, h2⟩).1
    · have hj' : j < l.length := by simpa using hj
      rw [List.getElem_ofFn]; exact (hf ⟨j, hj'⟩).2
theorem ce_tab {w : World} {B : Nat} {A : Option Addr} {us : List V2} {l : List Pr} (h1 : VEs w B us l) (h2 : CE w B A us) : Tab w B A l := by
  intro h0
  obtain ⟨b, o, e, hb, hc⟩ := h2 (by rw [h1.1]; exact h0)
  refine ⟨b, o, e, hb, fun j hj => ?_⟩
  have hj' : j < us.length := by rw [h1.1]; exact hj
  obtain ⟨A1, c1, A2, c2, e2, f3, f4, f5, f6, f7, f8⟩ := h1.2 j hj' hj
  obtain ⟨k1, k2⟩ := hc j hj'
  rw [e2] at k1 k2
  exact ⟨A1, c1, A2, c2, k1, k2, f3, f4, f5, f6, f7, f8⟩

def csE (us : List V2) : List Value := us.flatMap fun v => [v.1, v.2]
theorem csE_length (us : List V2) : (csE us).length = us.length * 2 := by
  induction us with
  | nil => rfl
  | cons v us ih =>
    have : csE (v :: us) = v.1 :: v.2 :: csE us := rfl
    rw [this, List.length_cons, List.length_cons, ih, List.length_cons]
    omega
theorem csE_append (a b : List V2) : csE (a ++ b) = csE a ++ csE b := by simp [csE]
theorem csE_at : ∀ (us : List V2) (j : Nat), (csE us)[j]? = if j % 2 = 0 then us[j / 2]?.map (·.1) else us[j / 2]?.map (·.2)
  | [], j => by simp [csE]
  | v :: us, 0 => by simp [csE]
  | v :: us, 1 => by simp [csE]
  | v :: us, j + 2 => by
    have e : csE (v :: us) = v.1 :: v.2 :: csE us := rfl
    rw [e, List.getElem?_cons_succ, List.getElem?_cons_succ, csE_at us j]
    rw [show (j + 2) % 2 = j % 2 by omega, show (j + 2) / 2 = j / 2 + 1 by omega, List.getElem?_cons_succ]
theorem csE_even (us : List V2) (j : Nat) (h : j < us.length) : (csE us)[j * 2]? = some us[j].1 := by
  rw [csE_at, if_pos (by omega), show j * 2 / 2 = j by omega, List.getElem?_eq_getElem h]
  rfl
theorem csE_odd (us : List V2) (j : Nat) (h : j < us.length) : (csE us)[j * 2 + 1]? = some us[j].2 := by
  rw [csE_at, if_neg (by omega), show (j * 2 + 1) / 2 = j by omega, List.getElem?_eq_getElem h]
  rfl
/-- all entries' cells are slices -/
def SlE (us : List V2) : Prop := ∀ v ∈ us, v.1.oneCell' = true ∧ v.2.oneCell' = true
theorem csE_one (us : List V2) (h : SlE us) : ∀ u ∈ csE us, u.oneCell' = true := by
  intro u hu
  unfold csE at hu
  obtain ⟨v, hv, hu2⟩ := List.mem_flatMap.1 hu
  simp only [List.mem_cons, List.not_mem_nil, or_false] at hu2
  rcases hu2 with rfl | rfl
  · exact (h v hv).1
  · exact (h v hv).2
theorem VEs.sl {w : World} {B : Nat} {us : List V2} {l : List Pr} (h : VEs w B us l) : SlE us := by
  intro v hv
  obtain ⟨j, hj, rfl⟩ := List.getElem_of_mem hv
  obtain ⟨A1, c1, A2, c2, e2, _⟩ := h.2 j hj (by rw [← h.1]; exact hj)
  rw [e2]
  exact ⟨rfl, rfl⟩

/-- v is the call's own slice of entries (from block base on), with the values us -/
def OwE (w : World) (base : Nat) (v : Value) (us : List V2) : Prop := w.ownsRow base 59 2 v us.length (csE us)
theorem infoE : (Tryd.prog.info? 59).map (fun i => (i.zero, i.size, i.bytes)) = some (some (.agg #[.slice none 0 0, .slice none 0 0]), 2, 48) := by kernel_rfl
theorem OwE.form {w : World} {base : Nat} {v : Value} {us : List V2} (h : OwE w base v us) : ∃ A c, v = .slice A us.length c ∧ us.length ≤ c ∧ c ≤ 9223372036854775807 ∧ CE w w.heap.size A us := by
  rcases h.2 with ⟨rfl, h0⟩ | ⟨g, cap, cur, rfl, hb, hg, hn, hcap, hsz, htake⟩
  · obtain rfl : us = [] := List.eq_nil_of_length_eq_zero h0
    exact ⟨none, 0, rfl, by simp, by simp, fun h => absurd h (by simp)⟩
  · refine ⟨some ⟨g, 0, none⟩, cap, rfl, hn, by simpa [maxLen] using hcap, fun _ => ⟨g, 0, rfl, (Array.getElem?_eq_some_iff.1 hg).1, fun j hj => ⟨?_, ?_⟩⟩⟩
    · have := World.ownsRow.cells h (g := g) rfl (j * 2) _ (csE_even us j hj)
      rwa [Addr.add_lit] at this
    · have := World.ownsRow.cells h (g := g) rfl (j * 2 + 1) _ (csE_odd us j hj)
      rwa [Addr.add_lit, ← Nat.add_assoc] at this

theorem run_appE (ty : TypeId) (w : World) (base : Nat) (v : Value) (us news : List V2) (h : OwE w base v us) (A : Option Addr) (c B : Nat) (hr : CE w B A news) (hs : SlE news)
    (hlen : us.length + news.length ≤ 1000000) (hbase : base ≤ w.heap.size) :
    ∃ v' w', (Builtin.append_ #[22, 22] ty #[v, .slice A news.length c]).run Tryd.prog w = .ok v' w' ∧ OwE w' base v' (us ++ news) ∧ w.grownBy w' v.ownBlock := by
  obtain ⟨i0, hi, hz0, hz1, hz2⟩ := info_parts infoE
  by_cases h0 : 0 < news.length
  · obtain ⟨b, o, rfl, _, hc⟩ := hr h0
    obtain ⟨v', w', h1, h2, h3, _⟩ := run_append_own (P := Tryd.prog) w base 22 ty 59 i0 (.agg #[.slice none 0 0, .slice none 0 0]) 2 48 Tryd.underlying22 hi hz0 hz1 hz2 rfl (by decide) v us.length (csE us) h ⟨b, o, none⟩ news.length c (csE news) (csE_length news) (fun j u hu => by
        rw [csE_at] at hu
        have hj : j / 2 < news.length := by
          rcases Nat.lt_or_ge (j / 2) news.length with h | h
          · exact h
          · rw [List.getElem?_eq_none h] at hu
            split at hu <;> cases hu
        rw [List.getElem?_eq_getElem hj] at hu
        rw [Addr.add_lit]
        split at hu
        · have e : j = j / 2 * 2 := by omega
          rw [e]
          exact (hc _ hj).1.trans hu
        · have e : o + j = o + j / 2 * 2 + 1 := by omega
          rw [e]
          exact (hc _ hj).2.trans hu) (csE_one news hs) (by unfold maxLen; omega) (by omega) hbase
    exact ⟨v', w', h1, by unfold OwE; rw [List.length_append, csE_append]; exact h2, h3⟩
  · obtain rfl : news = [] := List.eq_nil_of_length_eq_zero (by omega)
    cases A with
    | some ad =>
      obtain ⟨v', w', h1, h2, h3, _⟩ := run_append_own (P := Tryd.prog) w base 22 ty 59 i0 (.agg #[.slice none 0 0, .slice none 0 0]) 2 48 Tryd.underlying22 hi hz0 hz1 hz2 rfl (by decide) v us.length (csE us) h ad 0 c [] rfl (fun j u hu => by simp at hu) (fun u hu => by simp at hu) (by unfold maxLen; omega) (by omega) hbase
      exact ⟨v', w', h1, by simpa [OwE] using h2, h3⟩
    | none =>
      refine ⟨v, w, ?_, by simpa using h, World.grownBy.refl w _⟩
      rcases h.2 with ⟨rfl, _⟩ | ⟨g, cap, cur, rfl, _, _, hnc, _⟩
      · simp [Builtin.append_, run_underlying Tryd.underlying22, sizeOf, typeInfo, hi, Builtin.lenOf, Builtin.firstCells]
      · simp [Builtin.append_, run_underlying Tryd.underlying22, sizeOf, typeInfo, hi, Builtin.lenOf, Builtin.firstCells, hnc, storeCells]

theorem wpList_appE {ops : Array Oper} {rest : List Oper} {o : Oper} {a : Act} {Q : Exit → Act → World → Prop} (hgd : o.guard = none) (w : World) (s x : Operand)
    (ho : o.op = .call { callee := .builtin .append, args := #[s, x], argTypes := #[22, 22] })
    (base : Nat) (v : Value) (us news : List V2) (hs : a.eval s = v) (h : OwE w base v us) (A : Option Addr) (m c B : Nat) (hx : a.eval x = .slice A m c) (hm : m = news.length)
    (hr : CE w B A news) (hsl : SlE news) (hlen : us.length + news.length ≤ 1000000) (hbase : base ≤ w.heap.size)
    (hK : ∀ v' w', OwE w' base v' (us ++ news) → w.grownBy w' v.ownBlock → wpList Tryd.prog ops Q rest (a.put o.dst v') w') : wpList Tryd.prog ops Q (o :: rest) a w := by
  subst hm
  obtain ⟨v', w', hr, h2, h3⟩ := run_appE o.type w base v us news h A c B hr hsl hlen hbase
  exact Lib.wpList_append_run w hgd s x _ _ ho _ _ hs hx v' w' hr (hK v' w' h2 h3)
theorem OwE.below {w0 w w' : World} {base : Nat} {v : Value} {us : List V2} (h : OwE w base v us) (hb : Below base w0 w) (hg : w.grownBy w' v.ownBlock) (hB : base ≤ w.heap.size) : Below base w0 w' :=
  hb.grown hg hB (fun k hk => (World.ownsRow.lt h k hk).1)
theorem OwE.nil {w : World} {base : Nat} : OwE w base (.slice none 0 0) [] := World.ownsRow_nil _ _ _ _
theorem OwE.alloc {w : World} {base : Nat} {v : Value} {us : List V2} (h : OwE w base v us) (o : Obj) : OwE (w.alloc o) base v us := World.ownsRow.alloc h o
theorem OwE.made0 (w : World) {base : Nat} (hb : base ≤ w.heap.size) : OwE (w.alloc (.cells #[] 59)) base (.slice (some ⟨w.heap.size, 0, none⟩) 0 0) [] :=
  ⟨rfl, .inr ⟨w.heap.size, 0, #[], rfl, hb, heap_alloc_new w _, Nat.le_refl _, by simp [maxLen], rfl, rfl⟩⟩

/-- an entry in a block of its own -/
theorem ce_new (W : World) (x y : Value) : CE (W.alloc (.cells #[x, y] 59)) (W.heap.size + 1) (some ⟨W.heap.size, 0, none⟩) [(x, y)] := by
  have h2 := heap_alloc_new W (.cells #[x, y] 59)
  generalize W.alloc (.cells #[x, y] 59) = V at *
  refine fun _ => ⟨W.heap.size, 0, rfl, by omega, fun j hj => ?_⟩
  obtain rfl : j = 0 := by simpa using hj
  exact ⟨by simp [World.cell?, h2], by simp [World.cell?, h2]⟩

set_option maxRecDepth 100000 in
set_option maxHeartbeats 1000000 in
theorem clone_any (K : Option Addr) (k : List UInt8) (kc : Nat) (w : World) (hl : k.length ≤ 100000) (hr : Rd w w.heap.size K k) :
    Calls Tryd.prog 33 #[.slice K k.length kc] w fun e w' => AnsB w' e k k.length ∧ Below w.heap.size w w' := by
  obtain ⟨n, hn⟩ : ∃ n, n = k.length := ⟨_, rfl⟩
  have HN := Lib.hid hn
  rw [← hn]
  rw [← hn] at hl
  clear hn
  cases K with
  | none =>
    have hk : k = [] := by
      apply List.eq_nil_of_length_eq_zero
      by_cases h0 : 0 < k.length
      · obtain ⟨b, o, e, _⟩ := hr h0; cases e
      · omega
    have hn0 : n = 0 := by rw [HN.out, hk]; rfl
    subst hn0
    have HK := Lib.hid hk
    clear hk hr
    have he : ∀ W : World, (binOp .eql 25 (.slice none 0 kc) (.slice none 0 0)).run Tryd.prog W = .ok (.bool true) W := fun _ => rfl
    go_enter Tryd.func33, Tryd.ntmps33
    go_wp2
    go_ret
    exact ⟨⟨none, 0, rfl, Nat.le_refl _, by omega, by rw [HK.out]; exact Rd.nil⟩, Below.refl _ _⟩
  | some ad =>
    have HB0 := Lib.hid ((Below.refl w.heap.size w).alloc (Nat.le_refl _) (.cells #[] 5))
    have HR := Lib.hid hr
    clear hr
    have he : ∀ W : World, (binOp .eql 25 (.slice (some ad) n kc) (.slice none 0 0)).run Tryd.prog W = .ok (.bool false) W := fun _ => rfl
    go_enter Tryd.func33, Tryd.ntmps33
    go_wp2_with (at_builtin; (refine wpList_appS _ rfl (.tmp 5) (.tmp 6) rfl w.heap.size _ [] k rfl (by exact Ow.made0 w (Nat.le_refl _)) (some ad) n kc w.heap.size rfl HN.out (by exact HR.out.below HB0.out (Nat.le_refl _)) (by rw [← HN.out]; simp only [List.length_nil]; omega) (by exact HB0.out.size) ?_); intro v2 w2 hown2 hgrow2; have HB2 := Lib.hid (Ow.below (w0 := w) (by exact Ow.made0 w (Nat.le_refl _)) HB0.out hgrow2 HB0.out.size); obtain ⟨Au, cu, eu, hu1, hu2, hu3⟩ := hown2.form; rw [List.nil_append, ← HN.out] at eu hu1; rw [List.nil_append] at hu3; subst eu; have HU := Lib.hid hu3; clear hown2 hgrow2 hu3)
    go_ret
    exact ⟨⟨Au, cu, rfl, hu1, hu2, HU.out⟩, HB2.out⟩

theorem run_growE (ty : TypeId) (w : World) (N : Nat) (h0 : 0 < N) (hN : N ≤ 100000) :
    ∃ g cap w', (Builtin.append_ #[22, 3] ty #[.slice none 0 0, .int .i64 N]).run Tryd.prog w = .ok (.slice (some ⟨g, 0, none⟩) N cap) w' ∧ N ≤ cap ∧ cap ≤ 9223372036854775807 ∧ OwE w' w.heap.size (.slice (some ⟨g, 0, none⟩) 0 cap) [] ∧ Below w.heap.size w w' := by
  obtain ⟨i0, hi, hz0, hz1, hz2⟩ := info_parts infoE
  have hrun := Lib.run_append_nil_zeros (P := Tryd.prog) w 22 3 ty 59 i0 (.agg #[.slice none 0 0, .slice none 0 0]) .i64 .i64 Tryd.underlying22 Tryd.underlying3 hi hz0 N h0 (by rw [hz1]; omega) (by omega) (by rw [hz2]; omega)
  have hge := grownCap_ge w N 0 59
  have hcm : grownCap w N 0 59 ≤ maxLen := grownCap_le_maxLen w N 0 59 (by unfold maxLen; omega)
  have hzc : (Value.agg #[.slice none 0 0, .slice none 0 0]).cells.size = 2 := rfl
  refine ⟨_, _, _, hrun, hge, by simpa [maxLen] using hcm, ⟨rfl, .inr ⟨w.heap.size, _, _, rfl, Nat.le_refl _, heap_alloc_new w.drew _, Nat.zero_le _, hcm, ?_, ?_⟩⟩, (Below.refl _ _).drew.alloc (Nat.le_refl _) _⟩
  · simp only [Array.size_append, size_zeroCells, hzc]
    omega
  · simp [csE]
end Go.Proofs.YtcfncbbdlbdbnaaDoor
