
/- Rows of fields: their cells; cuts of them; appending many. -/
import Derived.Test.YtpfjecjfooefoaaDoorJ15
import Derived.Lib.AppendZerosOnto
import Derived.Test.YtpfjecjfooefoaaDoorJ03
import Derived.Test.YtpfjecjfooefoaaDoorJ14
import Derived.StillTailTactics
namespace Go.Proofs.YtpfjecjfooefoaaDoor
open Go.ChangeShapes Go.WideShapes Go.ChangeAt Go.RowKit

/-- a message as the laws ask of: few fields, of few bytes -/
structure OkM (l : List Fl) : Prop where
  len : l.length ≤ 200
  i64 : I64f l
  small : ∀ x ∈ l, x.2.length ≤ 1000
def I64b (n : Int) : Prop := -9223372036854775808 ≤ n ∧ n ≤ 9223372036854775807

/-- the cells at A are the values us -/
def CF (w : World) (B : Nat) (A : Option Addr) (us : List V2f) : Prop := 0 < us.length → ∃ b o, A = some ⟨b, o, none⟩ ∧ b < B ∧ ∀ j (h : j < us.length), w.cell? ⟨b, o + j * 2, none⟩ = some us[j].1 ∧ w.cell? ⟨b, o + j * 2 + 1, none⟩ = some us[j].2
set_option maxRecDepth 100000 in
theorem CF.below {w w' : World} {B B' : Nat} {A : Option Addr} {us : List V2f} (h : CF w B A us) (hb : Below B' w w') (hB : B ≤ B') : CF w' B A us := by
  intro h0
  obtain ⟨b, o, e, h1, h2⟩ := h h0
  exact ⟨b, o, e, h1, fun j hj => ⟨(hb.cell (p := ⟨b, o + j * 2, none⟩) (by show b < B'; omega)).trans (h2 j hj).1, (hb.cell (p := ⟨b, o + j * 2 + 1, none⟩) (by show b < B'; omega)).trans (h2 j hj).2⟩⟩
set_option maxRecDepth 100000 in
theorem CF.more {w : World} {B B' : Nat} {A : Option Addr} {us : List V2f} (h : CF w B A us) (hB : B ≤ B') : CF w B' A us := by
  intro h0
  obtain ⟨b, o, e, h1, h2⟩ := h h0
  exact ⟨b, o, e, by omega, h2⟩
set_option maxRecDepth 100000 in
theorem CF.nil {w : World} {B : Nat} {A : Option Addr} : CF w B A [] := fun h => absurd h (by simp)
def FEb (w : World) (B : Nat) (us : List V2f) (l : List Fl) : Prop := us.length = l.length ∧ ∀ j (h : j < us.length) (h' : j < l.length), FE w B us[j] l[j]
set_option maxRecDepth 100000 in
theorem FE.below {w w' : World} {B B' : Nat} {v : V2f} {p : Fl} (h : FE w B v p) (hb : Below B' w w') (hB : B ≤ B') : FE w' B v p := by
  obtain ⟨A, c, e, h1, h2, h3⟩ := h
  exact ⟨A, c, e, h1, h2, h3.below hb hB⟩
set_option maxRecDepth 100000 in
theorem FE.more {w : World} {B B' : Nat} {v : V2f} {p : Fl} (h : FE w B v p) (hB : B ≤ B') : FE w B' v p := by
  obtain ⟨A, c, e, h1, h2, h3⟩ := h
  exact ⟨A, c, e, h1, h2, h3.more hB⟩
set_option maxRecDepth 100000 in
theorem FEb.below {w w' : World} {B B' : Nat} {us : List V2f} {l : List Fl} (h : FEb w B us l) (hb : Below B' w w') (hB : B ≤ B') : FEb w' B us l := ⟨h.1, fun j h1 h2 => (h.2 j h1 h2).below hb hB⟩
set_option maxRecDepth 100000 in
theorem FEb.more {w : World} {B B' : Nat} {us : List V2f} {l : List Fl} (h : FEb w B us l) (hB : B ≤ B') : FEb w B' us l := ⟨h.1, fun j h1 h2 => (h.2 j h1 h2).more hB⟩
set_option maxRecDepth 100000 in
theorem FEb.append {w : World} {B : Nat} {us vs : List V2f} {l m : List Fl} (h : FEb w B us l) (k : FEb w B vs m) : FEb w B (us ++ vs) (l ++ m) := by
  refine ⟨by simp [h.1, k.1], fun j h1 h2 => ?_⟩
  by_cases hj : j < us.length
  · rw [List.getElem_append_left hj, List.getElem_append_left (by rw [← h.1]; exact hj)]
    exact h.2 j hj _
  · have h3 : j - us.length < vs.length := by simp at h1; omega
    rw [List.getElem_append_right (by omega), List.getElem_append_right (by rw [← h.1]; omega)]
    have e : j - l.length = j - us.length := by rw [h.1]
    simp only [e]
    exact k.2 (j - us.length) h3 _
set_option maxRecDepth 100000 in
theorem rdF_cf {w : World} {B : Nat} {A : Option Addr} {l : List Fl} (h : RdF w B A l) : ∃ us, us.length = l.length ∧ FEb w B us l ∧ CF w B A us := by
  rcases Nat.eq_zero_or_pos l.length with h0 | h0
  · obtain rfl : l = [] := List.eq_nil_of_length_eq_zero h0
    exact ⟨[], rfl, ⟨rfl, fun j h1 => absurd h1 (by simp)⟩, CF.nil⟩
  · obtain ⟨b, o, rfl, hb, hrow⟩ := h h0
    have each : ∀ j : Fin l.length, ∃ v : V2f, FE w B v l[j.1] ∧ w.cell? ⟨b, o + j.1 * 2, none⟩ = some v.1 ∧ w.cell? ⟨b, o + j.1 * 2 + 1, none⟩ = some v.2 := by
      intro j
      obtain ⟨A1, c1, f1, f2, f3, f4, f5⟩ := hrow j.1 j.2
      exact ⟨(_, _), ⟨A1, c1, rfl, f3, f4, f5⟩, f1, f2⟩
    obtain ⟨f, hf⟩ := Classical.axiomOfChoice each
    refine ⟨List.ofFn f, by simp, ⟨by simp, fun j h1 h2 => ?_⟩, fun _ => ⟨b, o, rfl, hb, fun j hj => ?_⟩⟩
    · rw [List.getElem_ofFn]; exact (hf ⟨j, h2⟩).1
    · have hj' : j < l.length := by simpa using hj
      rw [List.getElem_ofFn]; exact (hf ⟨j, hj'⟩).2
set_option maxRecDepth 100000 in
theorem cf_rdF {w : World} {B : Nat} {A : Option Addr} {us : List V2f} {l : List Fl} (h1 : FEb w B us l) (h2 : CF w B A us) : RdF w B A l := by
  intro h0
  obtain ⟨b, o, e, hb, hc⟩ := h2 (by rw [h1.1]; exact h0)
  refine ⟨b, o, e, hb, fun j hj => ?_⟩
  have hj' : j < us.length := by rw [h1.1]; exact hj
  obtain ⟨A1, c1, e2, f3, f4, f5⟩ := h1.2 j hj' hj
  obtain ⟨k1, k2⟩ := hc j hj'
  rw [e2] at k1 k2
  exact ⟨A1, c1, k1, k2, f3, f4, f5⟩
set_option maxRecDepth 100000 in
theorem RdF.go {w w' : World} {A : Option Addr} {l : List Fl} (h : RdF w w.heap.size A l) (hb : Below w.heap.size w w') : RdF w' w'.heap.size A l := (h.below hb (Nat.le_refl _)).more hb.size
set_option maxRecDepth 100000 in
/-- a cut -/
theorem RdF.takeF {w : World} {B : Nat} {A : Option Addr} {l : List Fl} (h : RdF w B A l) (n : Nat) : RdF w B A (l.take n) := by
  intro h0
  rw [List.length_take] at h0
  obtain ⟨b, o, e, hb, hc⟩ := h (by omega)
  refine ⟨b, o, e, hb, fun j hj => ?_⟩
  rw [List.length_take] at hj
  rw [List.getElem_take]
  exact hc j (by omega)
set_option maxRecDepth 100000 in
theorem RdF.cut {w : World} {B : Nat} {A : Option Addr} {l : List Fl} (h : RdF w B A l) (i c : Nat) (hc : l.length ≤ c) :
    RdF w B (if c = i then A else A.map (·.add (i * 2))) (l.drop i) := by
  intro h0
  rw [List.length_drop] at h0
  obtain ⟨b, o, rfl, hb, hcell⟩ := h (by omega)
  rw [if_neg (by omega)]
  refine ⟨b, o + i * 2, by simp [Addr.add_lit], hb, fun j hj => ?_⟩
  rw [List.length_drop] at hj
  rw [List.getElem_drop, show o + i * 2 + j * 2 = o + (i + j) * 2 by omega]
  exact hcell (i + j) (by omega)
/-- each value is a number and a slice -/
def NF (us : List V2f) : Prop := ∀ v ∈ us, (v.1.oneCell' = true ∧ NoB v.1 = true) ∧ v.2.oneCell' = true ∧ NoB v.2 = true
set_option maxRecDepth 100000 in
theorem FEb.nf {w : World} {B : Nat} {us : List V2f} {l : List Fl} (h : FEb w B us l) : NF us := by
  intro v hv
  obtain ⟨j, hj, rfl⟩ := List.getElem_of_mem hv
  obtain ⟨A1, c1, e2, _⟩ := h.2 j hj (by rw [← h.1]; exact hj)
  rw [e2]
  exact ⟨⟨rfl, rfl⟩, rfl, rfl⟩
set_option maxRecDepth 100000 in
theorem NF.one {us : List V2f} (h : NF us) : ∀ u ∈ csF us, u.oneCell' = true := by
  intro u hu
  unfold csF at hu
  obtain ⟨v, hv, hu2⟩ := List.mem_flatMap.1 hu
  simp only [List.mem_cons, List.not_mem_nil, or_false] at hu2
  rcases hu2 with rfl | rfl
  · exact (h v hv).1.1
  · exact (h v hv).2.1
set_option maxRecDepth 100000 in
theorem NF.nob {us : List V2f} (h : NF us) : ∀ u ∈ csF us, NoB u = true := by
  intro u hu
  unfold csF at hu
  obtain ⟨v, hv, hu2⟩ := List.mem_flatMap.1 hu
  simp only [List.mem_cons, List.not_mem_nil, or_false] at hu2
  rcases hu2 with rfl | rfl
  · exact (h v hv).1.2
  · exact (h v hv).2.2
set_option maxRecDepth 100000 in
theorem OwF.cf {w : World} {base : Nat} {v : Value} {us : List V2f} (h : OwF w base v us) : ∃ A c, v = .slice A us.length c ∧ us.length ≤ c ∧ c ≤ 9223372036854775807 ∧ CF w w.heap.size A us := by
  rcases h with ⟨rfl, rfl⟩ | ⟨g, cap, cur, rfl, h1, h2, h3, h4, h5, h6, -⟩
  · exact ⟨none, 0, rfl, by simp, by omega, CF.nil⟩
  · refine ⟨some ⟨g, 0, none⟩, cap, rfl, h3, by simpa [maxLen] using h4, fun _ => ⟨g, 0, rfl, (Array.getElem?_eq_some_iff.1 h2).1, fun j hj => ?_⟩⟩
    have k : ∀ i, i < us.length * 2 → cur[i]? = (csF us)[i]? := fun i hi => by
      rw [← h6, List.getElem?_take, if_pos hi, Array.getElem?_toList]
    refine ⟨?_, ?_⟩
    · rw [cell_of_row _ _ _ _ _ _ h2, Nat.zero_add, k _ (by omega), csF_even us j hj]
    · rw [cell_of_row _ _ _ _ _ _ h2, Nat.zero_add, k _ (by omega), csF_odd us j hj]
set_option maxRecDepth 100000 in
theorem OwF.base {w : World} {B B' : Nat} {v : Value} {us : List V2f} (h : OwF w B v us) (hB : B' ≤ B) : OwF w B' v us := by
  rcases h with h | ⟨g, cap, cur, h0, h1, h2⟩
  · exact .inl h
  · exact .inr ⟨g, cap, cur, h0, Nat.le_trans hB h1, h2⟩
set_option maxRecDepth 100000 in
theorem OwF.made0 (w : World) {base : Nat} (hb : base ≤ w.heap.size) : OwF (w.alloc (.cells #[] 60)) base (.slice (some ⟨w.heap.size, 0, none⟩) 0 0) [] :=
  .inr ⟨w.heap.size, 0, #[], rfl, hb, heap_alloc_new w _, Nat.le_refl _, by simp [maxLen], rfl, rfl, fun x hx => by simp at hx⟩
set_option maxRecDepth 100000 in
theorem cf_cells {w : World} {b o : Nat} {us : List V2f} (hc : ∀ j (h : j < us.length), w.cell? ⟨b, o + j * 2, none⟩ = some us[j].1 ∧ w.cell? ⟨b, o + j * 2 + 1, none⟩ = some us[j].2) :
    ∀ j u, (csF us)[j]? = some u → w.cell? ((⟨b, o, none⟩ : Addr).add j) = some u := by
  intro j u hu
  rw [csF_at] at hu
  have hj : j / 2 < us.length := by
    rcases Nat.lt_or_ge (j / 2) us.length with h | h
    · exact h
    · rw [List.getElem?_eq_none h] at hu
      split at hu <;> cases hu
  rw [List.getElem?_eq_getElem hj] at hu
  rw [Addr.add_lit]
  split at hu
  · have e : j = j / 2 * 2 := by omega
    rw [e]
    exact (hc _ hj).1.trans hu
  · have e : o + j = o + j / 2 * 2 + 1 := by omega
    rw [e]
    exact (hc _ hj).2.trans hu

set_option maxRecDepth 100000 in
/-- append of many fields -/
theorem run_appFs (ty : TypeId) (w : World) (base : Nat) (v : Value) (us news : List V2f) (h : OwF w base v us) (A : Option Addr) (c B : Nat) (hr : CF w B A news) (hs : NF news)
    (hlen : us.length + news.length ≤ 1000000) (hbase : base ≤ w.heap.size) :
    ∃ v' w', (Builtin.append_ #[22, 22] ty #[v, .slice A news.length c]).run Tryd.prog w = .ok v' w' ∧ OwF w' base v' (us ++ news) ∧ w.grownBy w' v.ownBlock := by
  obtain ⟨i0, hi, hz0, hz1, hz2⟩ := info_parts infoF
  have hnl : (csF news).length = news.length * 2 := csF_length news
  by_cases h0 : 0 < news.length
  case neg =>
    obtain rfl : news = [] := List.eq_nil_of_length_eq_zero (by omega)
    rw [List.append_nil]
    cases A with
    | none =>
      refine ⟨v, w, ?_, h, World.grownBy.refl w _⟩
      rcases h with ⟨rfl, _⟩ | ⟨g, cap, cur, rfl, h1, h2, h3, h4, h5, h6, -⟩
      · simp [Builtin.append_, run_underlying Tryd.underlying22, sizeOf, typeInfo, hi, Builtin.lenOf, Builtin.firstCells]
      · simp [Builtin.append_, run_underlying Tryd.underlying22, sizeOf, typeInfo, hi, Builtin.lenOf, Builtin.firstCells, h3, storeCells]
    | some ad =>
      rcases h with ⟨rfl, rfl⟩ | ⟨g, cap, cur, rfl, h1, h2, h3, h4, h5, h6, h7⟩
      · obtain ⟨v', w', k1, -, k3, k4⟩ := run_append_own (P := Tryd.prog) w base 22 ty 60 i0 (.agg #[.int .i64 0, .slice none 0 0]) 2 32 Tryd.underlying22 hi hz0 hz1 hz2 rfl (by decide) (.slice none 0 0) 0 [] (World.ownsRow_nil _ _ _ _) ad 0 c [] rfl (fun j u hu => by simp at hu) (fun u hu => by simp at hu) (by unfold maxLen; omega) (by omega) hbase
        exact ⟨v', w', k1, .inl ⟨k4.2 ⟨rfl, rfl⟩, rfl⟩, k3⟩
      · have hr := run_append_room (P := Tryd.prog) w 22 ty 60 i0 Tryd.underlying22 hi g us.length cap cur h2 ad 0 c [] (by simp) (fun j u hu => by simp at hu) (fun u hu => by simp at hu) (by omega) (by rw [hz1, h5]; simp; omega)
        refine ⟨_, _, hr, .inr ⟨g, cap, _, rfl, h1, setRow_heap w g cur _ _ _ h2, h3, h4, ?_, ?_, ?_⟩, ⟨rfl, rfl, rfl, by simp, fun k _ hk => setRow_other w g k _ (fun e => hk (by simp [Value.ownBlock, e]))⟩⟩
        · simp [h5]
        · simp; exact h6
        · intro u hu
          simp at hu
          exact h7 u (by simpa using hu)
  case pos =>
  obtain ⟨b, o, rfl, _, hc⟩ := hr h0
  have hnews := cf_cells hc
  have hlen2 : (us ++ news).length = us.length + news.length := by simp
  have hcs2 : (csF (us ++ news)).length = (us.length + news.length) * 2 := by rw [csF_length, hlen2]
  have hzb : ∀ q, ∀ u ∈ (Builtin.zeroCells (Value.agg #[.int .i64 0, .slice none 0 0]).cells q).toList, NoB u = true := by
    intro q u hu
    simp [Builtin.zeroCells, Value.cells] at hu
    obtain ⟨j, hj, rfl⟩ := hu
    rcases Nat.mod_two_eq_zero_or_one j with e | e <;> simp [e, NoB]
  have grown : ∀ old, old < us.length + news.length → (∀ u ∈ csF us, NoB u = true) →
      OwF (w.drew.alloc (.cells ((csF us).toArray ++ (csF news).toArray ++ Builtin.zeroCells (Value.agg #[.int .i64 0, .slice none 0 0]).cells (grownCap w (us.length + news.length) old 60 - (us.length + news.length))) 60)) base
        (.slice (some ⟨w.heap.size, 0, none⟩) (us.length + news.length) (grownCap w (us.length + news.length) old 60)) (us ++ news) := by
    intro old ho hnb
    have hge := grownCap_ge w (us.length + news.length) old 60
    have hcm : grownCap w (us.length + news.length) old 60 ≤ maxLen := grownCap_le_maxLen w (us.length + news.length) old 60 (by unfold maxLen; omega)
    have hzc : (Value.agg #[.int .i64 0, .slice none 0 0]).cells.size = 2 := rfl
    refine .inr ⟨w.heap.size, _, _, by rw [hlen2], hbase, heap_alloc_new w.drew _, by rw [hlen2]; exact hge, hcm, ?_, ?_, ?_⟩
    · simp only [Array.size_append, List.size_toArray, size_zeroCells, hzc, csF_length]
      omega
    · simp only [Array.toList_append]
      rw [← csF_append, hlen2, ← hcs2]
      exact List.take_left
    · intro u hu
      simp only [Array.toList_append, List.mem_append] at hu
      rcases hu with (hu | hu) | hu
      · exact hnb u hu
      · exact hs.nob u hu
      · exact hzb _ u hu
  rcases h with ⟨rfl, rfl⟩ | ⟨g, cap, cur, rfl, hbg, hg, hnc, hcm, hcs, htake, hnb⟩
  · have hr := run_append_nil (P := Tryd.prog) w 22 ty 60 i0 (.agg #[.int .i64 0, .slice none 0 0]) Tryd.underlying22 hi hz0 ⟨b, o, none⟩ news.length c (csF news) (by rw [hnl, hz1]) hnews h0 (by simp at hlen; omega) (by rw [hz2]; simp at hlen; omega)
    have hgr := grown 0 (by simp; exact h0) (by simp [csF])
    simp only [List.length_nil, Nat.zero_add, List.nil_append] at hgr ⊢
    refine ⟨_, _, hr, ?_, ⟨rfl, rfl, rfl, by simp, fun k hk _ => heap_alloc_old w.drew _ hk⟩⟩
    simpa [csF] using hgr
  · have hnbu : ∀ u ∈ csF us, NoB u = true := fun u hu => hnb u (by rw [← htake] at hu; exact List.mem_of_mem_take hu)
    by_cases hroom : us.length + news.length ≤ cap
    · have hr := run_append_room (P := Tryd.prog) w 22 ty 60 i0 Tryd.underlying22 hi g us.length cap cur hg ⟨b, o, none⟩ news.length c (csF news) (by rw [hnl, hz1]) hnews hs.one hroom (by rw [hnl, hz1, hcs]; omega)
      refine ⟨_, _, hr, .inr ⟨g, cap, _, by rw [hlen2], hbg, setRow_heap w g cur _ _ _ hg, by rw [hlen2]; exact hroom, hcm, ?_, ?_, ?_⟩, ⟨rfl, rfl, rfl, by simp, fun k _ hk => setRow_other w g k _ (fun e => hk (by simp [Value.ownBlock, e]))⟩⟩
      · simp only [List.size_toArray, List.length_append, List.length_take, List.length_drop, Array.length_toList, hnl]
        rw [hz1]
        omega
      · rw [hz1, htake, ← csF_append, hlen2, ← hcs2]
        exact List.take_left
      · intro u hu
        simp only [List.mem_append] at hu
        rcases hu with (hu | hu) | hu
        · exact hnb u (List.mem_of_mem_take hu)
        · exact hs.nob u hu
        · exact hnb u (List.mem_of_mem_drop hu)
    · have hx : w.ownsRow base 60 2 (.slice (some ⟨g, 0, none⟩) us.length cap) us.length (csF us) := ⟨csF_length us, .inr ⟨g, cap, cur, rfl, hbg, hg, hnc, hcm, hcs, htake⟩⟩
      have holds : ∀ j u, (csF us)[j]? = some u → w.cell? ((⟨g, 0, none⟩ : Addr).add j) = some u := hx.cells (g := g) rfl
      have hr := run_append_grow (P := Tryd.prog) w 22 ty 60 i0 (.agg #[.int .i64 0, .slice none 0 0]) Tryd.underlying22 hi hz0 ⟨g, 0, none⟩ us.length cap (csF us) (by rw [csF_length, hz1]) holds ⟨b, o, none⟩ news.length c (csF news) (by rw [hnl, hz1]) hnews (by omega) (by omega) (by rw [hz2]; exact growslice_fits (by omega) (by omega))
      exact ⟨_, _, hr, grown cap (by omega) hnbu, ⟨rfl, rfl, rfl, by simp, fun k hk _ => heap_alloc_old w.drew _ hk⟩⟩
set_option maxRecDepth 100000 in
theorem wpList_appFs {ops : Array Oper} {rest : List Oper} {o : Oper} {a : Act} {Q : Exit → Act → World → Prop} (w : World) (hw : Region.wanted o (yielded ops a.tmps) = true) (s x : Operand)
    (ho : o.op = .call { callee := .builtin .append, args := #[s, x], argTypes := #[22, 22] })
    (base : Nat) (v : Value) (us news : List V2f) (hs : a.eval s = v) (h : OwF w base v us) (A : Option Addr) (m c B : Nat) (hx : a.eval x = .slice A m c) (hm : m = news.length)
    (hr : CF w B A news) (hn : NF news) (hlen : us.length + news.length ≤ 1000000) (hbase : base ≤ w.heap.size)
    (hK : ∀ v' w', OwF w' base v' (us ++ news) → w.grownBy w' v.ownBlock → wpList Tryd.prog ops Q rest (a.put o.dst v') w') : wpList Tryd.prog ops Q (o :: rest) a w := by
  subst hm
  obtain ⟨v', w', hr, h2, h3⟩ := run_appFs o.type w base v us news h A c B hr hn hlen hbase
  refine BigFrame.wpList_want hw fun _ hK' => ?_
  unfold Oper.wp execOp
  simp only [ho, resolve, invoke, builtin, Sem.run_bind, Sem.run_pure, Result.andThen_ok, List.map_toArray, List.map_cons, List.map_nil, hs, hx, hr]
  exact hK' _ _ (hK v' w' h2 h3)
set_option maxRecDepth 100000 in
/-- make room -/
theorem run_growF (ty : TypeId) (w : World) (N : Nat) (h0 : 0 < N) (hN : N ≤ 100000) :
    ∃ g cap w', (Builtin.append_ #[22, 3] ty #[.slice none 0 0, .int .i64 N]).run Tryd.prog w = .ok (.slice (some ⟨g, 0, none⟩) N cap) w' ∧ N ≤ cap ∧ cap ≤ 9223372036854775807 ∧ OwF w' w.heap.size (.slice (some ⟨g, 0, none⟩) 0 cap) [] ∧ Below w.heap.size w w' := by
  obtain ⟨i0, hi, hz0, hz1, hz2⟩ := info_parts infoF
  have hrun := Lib.run_append_nil_zeros (P := Tryd.prog) w 22 3 ty 60 i0 (.agg #[.int .i64 0, .slice none 0 0]) .i64 .i64 Tryd.underlying22 Tryd.underlying3 hi hz0 N h0 (by rw [hz1]; omega) (by omega) (by rw [hz2]; omega)
  have hge := grownCap_ge w N 0 60
  have hcm : grownCap w N 0 60 ≤ maxLen := grownCap_le_maxLen w N 0 60 (by unfold maxLen; omega)
  have hzc : (Value.agg #[.int .i64 0, .slice none 0 0]).cells.size = 2 := rfl
  refine ⟨_, _, _, hrun, hge, by simpa [maxLen] using hcm, .inr ⟨w.heap.size, _, _, rfl, Nat.le_refl _, heap_alloc_new w.drew _, Nat.zero_le _, hcm, ?_, ?_, ?_⟩, (Below.refl _ _).drew.alloc (Nat.le_refl _) _⟩
  · simp only [Array.size_append, size_zeroCells, hzc]
    omega
  · simp [csF]
  · intro u hu
    simp [Builtin.zeroCells, Value.cells] at hu
    rcases hu with ⟨j, hj, rfl⟩ | ⟨j, hj, rfl⟩ <;> rcases Nat.mod_two_eq_zero_or_one j with e | e <;> simp [e, NoB]
end Go.Proofs.YtpfjecjfooefoaaDoor
/- The document's answers (iso): Right. -/

namespace Go.Proofs.YtpfjecjfooefoaaDoor
open Go.RowKit

def RightM (t : Int) (l : List Fl) : Prop := typeF t = true ∧ ∀ j (h : j < l.length), fitsF l[j].1 l[j].2 = true ∧ (0 < j → l[j - 1].1 < l[j].1)
instance (t : Int) (l : List Fl) : Decidable (RightM t l) := inferInstanceAs (Decidable (typeF t = true ∧ ∀ j (h : j < l.length), fitsF l[j].1 l[j].2 = true ∧ (0 < j → l[j - 1].1 < l[j].1)))

set_option maxRecDepth 100000 in
set_option maxHeartbeats 4000000 in
theorem refRightM_any (t : Int) (A : Option Addr) (l : List Fl) (c : Nat) (W : World) (ht : -9223372036854775808 ≤ t ∧ t ≤ 9223372036854775807) (hl : l.length ≤ 1000) (hlb : ∀ x ∈ l, x.2.length ≤ 100000) (_hc : l.length ≤ c) (_hcm : c ≤ 9223372036854775807) (hr : RdF W W.heap.size A l) :
    Calls Tryd.prog 19 #[.agg #[.int .i64 t, .slice A l.length c]] W fun e W' => e = .returned (.bool (decide (RightM t l))) ∧ Below W.heap.size W W' := by
  obtain ⟨R, hR⟩ : ∃ R, R = decide (RightM t l) := ⟨_, rfl⟩
  rw [← hR]
  have HR := Lib.hid hR
  have HLB := Lib.hid hlb
  have CT := Lib.hid (fun w => refType_any t ht w)
  have RA := Lib.hid (fun w (h : Below W.heap.size W w) => (hr.below h (Nat.le_refl _)).more h.size)
  obtain ⟨n, hn⟩ : ∃ n, n = l.length := ⟨_, rfl⟩
  have HN := Lib.hid hn
  rw [← hn] at hl ⊢
  have hb := (Below.refl W.heap.size W).alloc (Nat.le_refl _) (.cells #[.int .i64 t, .slice A n c] 24)
  have hg := heap_alloc_new W (.cells #[.int .i64 t, .slice A n c] 24)
  obtain ⟨V, hV⟩ : ∃ V, V = W.alloc (.cells #[.int .i64 t, .slice A n c] 24) := ⟨_, rfl⟩
  rw [← hV] at hb hg
  have HG := Lib.hid hg
  have HB := Lib.hid hb
  have HV := Lib.hid hV
  clear hR hlb ht hr hn hb hg hV _hc _hcm
  go_enter Tryd.func19, Tryd.ntmps19
  go_wp2
  rw [← HV.out]
  clear HV
  go_loopw [3] (fun i wr => ∃ k : Nat, k ≤ n ∧ i = .int .i64 k ∧ Hid (∀ j (h : j < l.length), j < k → fitsF l[j].1 l[j].2 = true ∧ (0 < j → l[j - 1].1 < l[j].1)) ∧ Hid (Below V.heap.size V wr)) (fun i _ => n - (intOf i).toNat)
  case atStart => exact ⟨0, Nat.zero_le _, rfl, Lib.hid (fun j h hj => absurd hj (by omega)), Lib.hid (Below.refl _ _)⟩
  case round =>
    obtain ⟨k, hk, rfl, HT, HBV⟩ := hrel
    have HBW := Lib.hid (belG HB.out HBV.out HB.out.size)
    obtain ⟨e0, e1⟩ := cG2 (oldG HG.out HBV.out (Nat.le_refl _))
    by_cases hlt : k < n
    · have hk1 : k < l.length := by rw [← HN.out]; exact hlt
      obtain ⟨b1, o1, A1, c1, rfl, hb1, x1, y1, h13, h14, h15⟩ := (RA.out _ HBW.out).at_ hk1
      have HTN := Lib.hid (show (fitsF l[k].1 l[k].2 = true ∧ (0 < k → l[k - 1].1 < l[k].1)) → ∀ j (h : j < l.length), j < k + 1 → fitsF l[j].1 l[j].2 = true ∧ (0 < j → l[j - 1].1 < l[j].1) from fun h j hj1 hj2 => by
        by_cases e : j = k
        · subst e; exact h
        · exact HT.out j hj1 (by omega))
      have HNE := Lib.hid (show ¬ (fitsF l[k].1 l[k].2 = true ∧ (0 < k → l[k - 1].1 < l[k].1)) → R = false from fun hne => by
        rw [HR.out]
        exact decide_eq_false (fun h => hne (h.2 k hk1)))
      have hki : (k : Int) < (n : Int) := by omega
      have hk0 : (0 : Int) ≤ (k : Int) := Int.natCast_nonneg _
      have hv := HLB.out _ (List.getElem_mem hk1)
      obtain ⟨xk, hxk⟩ : ∃ x, x = l[k].1 := ⟨_, rfl⟩
      obtain ⟨vk, hvk⟩ : ∃ x, x = l[k].2 := ⟨_, rfl⟩
      rw [← hxk] at x1
      rw [← hvk] at y1 h15 hv
      have CF := Lib.hid (refFitsNo_any xk A1 vk c1 wr.drew (by omega) (by exact h15))
      have HFE := Lib.hid (show fitsF l[k].1 l[k].2 = fitsF xk vk by rw [hxk, hvk])
      have HXK := Lib.hid hxk
      generalize vk.length = z1 at *
      obtain ⟨F, hF⟩ : ∃ F, F = fitsF xk vk := ⟨_, rfl⟩
      rw [← hF] at CF HFE
      clear hxk hvk h13 h14 h15 HT hv hF hb1
      go_wp2_with fail
      go_still_tail 12, (by kernel_rfl)
      change wpList _ _ _ _ _ wr.drew
      have HBd := Lib.hid (HBV.out.drew)
      generalize wr.drew = wd at *
      clear e0 e1 x1 y1 HBV HBW
      go_wp2_with fail
      refine CF.out.mono ?_
      rintro e w2 ⟨rfl, hb⟩
      have HBV := Lib.hid (belG HBd.out hb HBd.out.size)
      have HBW := Lib.hid (belG HB.out HBV.out HB.out.size)
      clear hb CF HBd
      obtain ⟨e0, e1⟩ := cG2 (oldG HG.out HBV.out (Nat.le_refl _))
      cases F with
      | false =>
        have HRF := Lib.hid (HNE.out (fun h => by rw [HFE.out] at h; exact absurd h.1 (by decide)))
        clear HNE HTN HFE HXK
        go_wp2
        go_quiet (fail)
        go_wp2
        go_ret
        exact ⟨by rw [HRF.out]; rfl, below_drewN HBW.out _⟩
      | true =>
        by_cases h4 : k = 0
        · have HTQ := Lib.hid (HTN.out ⟨HFE.out, fun h => by omega⟩)
          have d4 : ¬ (0 : Int) < (k : Int) := by omega
          have d5 : decide ((0 : Int) < (k : Int)) = false := decide_eq_false d4
          have d7 : decide (0 < k) = false := decide_eq_false (by omega)
          clear HNE HTN HFE HXK h4
          go_wp2
          go_quiet (fail)
          go_wp2
          go_roundw
          case rel => exact ⟨k + 1, by omega, by go_num, HTQ, Lib.hid (below_drewN HBV.out _)⟩
          case measure => simp [intOf]; omega
        · obtain ⟨b1', o1', A1', c1', e9, hb1, x1, -, -, -, -⟩ := (RA.out _ HBW.out).at_ hk1
          cases e9
          obtain ⟨b2, o2, A2, c2, e9, hb2, x2, -, -, -, -⟩ := (RA.out _ HBW.out).at_ (k := k - 1) (by omega)
          cases e9
          rw [← HXK.out] at x1
          have HYK := Lib.hid (show l[k].1 = xk from HXK.out.symm)
          obtain ⟨yk, hyk⟩ : ∃ y, y = l[k - 1].1 := ⟨_, rfl⟩
          rw [← hyk] at x2
          have HYY := Lib.hid hyk
          have d4 : (0 : Int) < (k : Int) := by omega
          have d5 : decide ((0 : Int) < (k : Int)) = true := decide_eq_true d4
          have d7 : decide (0 < k) = true := decide_eq_true (by omega)
          have i1 : (0 : Int) ≤ (k : Int) - 1 := by omega
          clear hyk hb1 hb2
          by_cases h5 : xk ≤ yk
          · have HRF := Lib.hid (HNE.out (fun h => by have h6 := h.2 (by omega); rw [HYK.out, ← HYY.out] at h6; omega))
            have d6 : decide (xk ≤ yk) = true := decide_eq_true h5
            clear HNE HTN HFE HXK h4 HYK HYY
            go_wp2
            go_quiet (fail)
            go_wp2
            go_ret
            exact ⟨by rw [HRF.out]; rfl, below_drewN HBW.out _⟩
          · have HTQ := Lib.hid (HTN.out ⟨HFE.out, fun _ => by rw [HYK.out, ← HYY.out]; omega⟩)
            have d6 : decide (xk ≤ yk) = false := decide_eq_false h5
            clear HNE HTN HFE HXK h4 HYK HYY
            go_wp2
            go_quiet (fail)
            go_wp2
            go_roundw
            case rel => exact ⟨k + 1, by omega, by go_num, HTQ, Lib.hid (below_drewN HBV.out _)⟩
            case measure => simp [intOf]; omega
    · have HALL := Lib.hid (show decide (RightM t l) = typeF t by
        have h : ∀ j (h : j < l.length), fitsF l[j].1 l[j].2 = true ∧ (0 < j → l[j - 1].1 < l[j].1) := fun j hj => HT.out j hj (by have := HN.out; omega)
        cases h2 : typeF t with
        | true => exact decide_eq_true ⟨h2, h⟩
        | false => exact decide_eq_false (fun h3 => by have h4 : typeF t = true := h3.1; rw [h2] at h4; exact absurd h4 (by decide)))
      have hki : ¬ (k : Int) < (n : Int) := by omega
      clear HT
      go_wp2_with fail
      refine (CT.out _).mono ?_
      rintro e w2 ⟨rfl, rfl⟩
      go_wp2
      go_ret
      exact ⟨by rw [HR.out, HALL.out]; rfl, HBW.out⟩
end Go.Proofs.YtpfjecjfooefoaaDoor
