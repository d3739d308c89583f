
/- Rows and bytes beside each other: rows that lie apart from a block of bytes; appending to either. -/
import Derived.Test.YtplekllhnpljiaaJ13
import Derived.Test.YtplekllhnpljiaaJ02
namespace Go.Proofs.Ytplekllhnpljiaa
open Go.RowKit

set_option maxRecDepth 100000 in
theorem ownsRow_apart8 {w : World} {b1 b2 : Nat} {e1 e2 : TypeId} {s1 s2 : Nat} {v u : Value} {n m : Nat} {xs ys : List Value} (h : w.ownsRow b1 e1 s1 v n xs) (k : w.ownsRow b2 e2 s2 u m ys) (he : e1 ≠ e2) : v.ownBlock = none ∨ v.ownBlock ≠ u.ownBlock := by
  rcases h.2 with ⟨rfl, _⟩ | ⟨g, cap, cur, rfl, _, hg, _⟩
  · exact .inl rfl
  · right
    rcases k.2 with ⟨rfl, _⟩ | ⟨g2, cap2, cur2, rfl, _, hg2, _⟩
    · simp [Value.ownBlock]
    · simp only [Value.ownBlock]
      intro e
      cases Option.some.inj e
      rw [hg] at hg2
      cases hg2
      exact he rfl
set_option maxRecDepth 100000 in
/-- bytes of the call's own, where rows of the call's own grow -/
theorem Ow.keptR {w w' : World} {b1 b2 : Nat} {v u : Value} {l : List UInt8} {us : List Value} (h : Ow w b1 v l) (k : OwR w b2 u us) (hg : w.grownBy w' u.ownBlock) : Ow w' b1 v l :=
  World.ownsRow.kept h hg (ownsRow_apart8 h k.owns (by decide))
set_option maxRecDepth 100000 in
/-- rows of the call's own, where bytes of the call's own grow -/
theorem OwR.keptB {w w' : World} {b1 b2 : Nat} {v u : Value} {l : List UInt8} {us : List Value} (h : OwR w b1 v us) (k : Ow w b2 u l) (hg : w.grownBy w' u.ownBlock) : OwR w' b1 v us := by
  have hne := ownsRow_apart8 h.owns k (by decide)
  rcases h with h | ⟨g, cap, cur, rfl, h1, h2, h3⟩
  · exact .inl h
  · refine .inr ⟨g, cap, cur, rfl, h1, (hg.block g (Array.getElem?_eq_some_iff.1 h2).1 (fun e => ?_)).trans h2, h3⟩
    rcases hne with hne | hne
    · simp [Value.ownBlock] at hne
    · exact hne (by simp only [Value.ownBlock]; exact e)
/-- a slice of bytes that lies apart from the block g -/
def AwV (g : Nat) (u : Value) : Prop := ∀ A n c, u = .slice A n c → 0 < n → ∀ p, A = some p → p.block ≠ g
set_option maxRecDepth 100000 in
theorem AwV.none {g n c : Nat} : AwV g (.slice none n c) := fun A m d e _ p hp => by cases e; cases hp
set_option maxRecDepth 100000 in
theorem AwV.zero {g c : Nat} {A : Option Addr} : AwV g (.slice A 0 c) := fun A m d e h p hp => by cases e; omega
set_option maxRecDepth 100000 in
theorem SE.aw {w : World} {B g : Nat} {u : Value} {p : List UInt8} (h : SE w B u p) (hg : B ≤ g) : AwV g u := by
  obtain ⟨A, c, rfl, -, -, hr⟩ := h
  intro A' n' c' e h0 q hq
  cases e
  obtain ⟨b, o, e2, hb, -⟩ := hr h0
  rw [hq] at e2
  cases e2
  show b ≠ g
  omega
set_option maxRecDepth 100000 in
theorem Rd.aw {w : World} {B g c : Nat} {A : Option Addr} {p : List UInt8} (h : Rd w B A p) (hg : B ≤ g) : AwV g (.slice A p.length c) := by
  intro A' n' c' e h0 q hq
  cases e
  obtain ⟨b, o, e2, hb, -⟩ := h h0
  rw [hq] at e2
  cases e2
  show b ≠ g
  omega
set_option maxRecDepth 100000 in
/-- bytes that lie apart from the one block that grows -/
theorem Rd.aside {w w' : World} {g c : Nat} {A : Option Addr} {p : List UInt8} (h : Rd w w.heap.size A p) (ha : AwV g (.slice A p.length c)) (hg : w.grownBy w' (some g)) : Rd w' w'.heap.size A p := by
  intro h0
  obtain ⟨b, o, rfl, hb, hc⟩ := h h0
  have hne := ha _ _ _ rfl h0 _ rfl
  have hblk := hg.block b hb (fun e => hne (Option.some.inj e))
  have hsz := hg.size
  exact ⟨b, o, rfl, by omega, fun j hj => by rw [World.cell?_of_block (w := w) (a := ⟨b, o + j, none⟩) hblk]; exact hc j hj⟩
set_option maxRecDepth 100000 in
theorem SEs.aside {w w' : World} {g : Nat} {us : List Value} {l : List (List UInt8)} (h : SEs w us l) (ha : ∀ u ∈ us, AwV g u) (hg : w.grownBy w' (some g)) : SEs w' us l := by
  refine ⟨h.1, fun j h1 h2 => ?_⟩
  obtain ⟨A, c, e, k1, k2, k3⟩ := h.2 j h1 h2
  have h3 := ha _ (List.getElem_mem h1)
  rw [e] at h3
  exact ⟨A, c, e, k1, k2, k3.aside h3 hg⟩
set_option maxRecDepth 100000 in
theorem SEs.aw {w : World} {g : Nat} {us : List Value} {l : List (List UInt8)} (h : SEs w us l) (hg : w.heap.size ≤ g) : ∀ u ∈ us, AwV g u := fun u hu => by
  obtain ⟨j, hj, rfl⟩ := List.getElem_of_mem hu
  exact (h.2 j hj (by rw [← h.1]; exact hj)).aw hg

set_option maxRecDepth 100000 in
/-- append of rows, or of none -/
theorem run_appRs (ty : TypeId) (w : World) (base : Nat) (v : Value) (us news : List Value) (h : OwR w base v us) (A : Option Addr) (c : Nat) (hA : 0 < news.length → ∃ ad, A = some ad ∧ ∀ j u, news[j]? = some u → w.cell? (ad.add j) = some u)
    (hsl : ∀ u ∈ news, ∃ A n c, u = .slice A n c) (hlen : us.length + news.length ≤ 1000000) (hbase : base ≤ w.heap.size) :
    ∃ v' w', (Builtin.append_ #[42, 42] ty #[v, .slice A news.length c]).run Try.prog w = .ok v' w' ∧ OwR w' base v' (us ++ news) ∧ w.grownBy w' v.ownBlock := by
  by_cases h0 : 0 < news.length
  · obtain ⟨ad, rfl, hnews⟩ := hA h0
    exact run_appR ty w base v us h ad news.length c news rfl hnews hsl h0 hlen hbase
  obtain ⟨i0, hi, hz0, hz1, hz2⟩ := info_parts infoR
  obtain rfl : news = [] := List.eq_nil_of_length_eq_zero (by omega)
  rw [List.append_nil]
  cases A with
  | none =>
    refine ⟨v, w, ?_, h, World.grownBy.refl w _⟩
    rcases h with ⟨rfl, _⟩ | ⟨g, cap, cur, rfl, h1, h2, h3, h4, h5, h6, -⟩
    · simp [Builtin.append_, run_underlying Try.underlying42, sizeOf, typeInfo, hi, Builtin.lenOf, Builtin.firstCells]
    · simp [Builtin.append_, run_underlying Try.underlying42, sizeOf, typeInfo, hi, Builtin.lenOf, Builtin.firstCells, h3, storeCells]
  | some ad =>
    rcases h with ⟨rfl, rfl⟩ | ⟨g, cap, cur, rfl, h1, h2, h3, h4, h5, h6, h7⟩
    · obtain ⟨v', w', k1, -, k3, k4⟩ := run_append_own (P := Try.prog) w base 42 ty 23 i0 (.slice none 0 0) 1 24 Try.underlying42 hi hz0 hz1 hz2 rfl (by decide) (.slice none 0 0) 0 [] (World.ownsRow_nil _ _ _ _) ad 0 c [] rfl (fun j u hu => by simp at hu) (fun u hu => by simp at hu) (by unfold maxLen; omega) (by omega) hbase
      exact ⟨v', w', k1, .inl ⟨k4.2 ⟨rfl, rfl⟩, rfl⟩, k3⟩
    · have hr := run_append_room (P := Try.prog) w 42 ty 23 i0 Try.underlying42 hi g us.length cap cur h2 ad 0 c [] (by simp) (fun j u hu => by simp at hu) (fun u hu => by simp at hu) (by omega) (by rw [hz1, h5]; simp; omega)
      refine ⟨_, _, hr, .inr ⟨g, cap, _, rfl, h1, setRow_heap w g cur _ _ _ h2, h3, h4, ?_, ?_, ?_⟩, ⟨rfl, rfl, rfl, by simp, fun k _ hk => setRow_other w g k _ (fun e => hk (by simp [Value.ownBlock, e]))⟩⟩
      · simp [h5]
      · simp; simpa using h6
      · intro u hu
        simp at hu
        exact h7 u (by simpa using hu)
set_option maxRecDepth 100000 in
theorem wpList_appRs {ops : Array Oper} {rest : List Oper} {o : Oper} {a : Act} {Q : Exit → Act → World → Prop} (w : World) (hw : Region.wanted o (yielded ops a.tmps) = true) (s x : Operand)
    (ho : o.op = .call { callee := .builtin .append, args := #[s, x], argTypes := #[42, 42] })
    (base : Nat) (v : Value) (us news : List Value) (hs : a.eval s = v) (h : OwR w base v us) (A : Option Addr) (m c : Nat) (hx : a.eval x = .slice A m c) (hm : m = news.length)
    (hA : 0 < news.length → ∃ ad, A = some ad ∧ ∀ j u, news[j]? = some u → w.cell? (ad.add j) = some u) (hsl : ∀ u ∈ news, ∃ A n c, u = .slice A n c) (hlen : us.length + news.length ≤ 1000000) (hbase : base ≤ w.heap.size)
    (hK : ∀ v' w', OwR w' base v' (us ++ news) → w.grownBy w' v.ownBlock → wpList Try.prog ops Q rest (a.put o.dst v') w') : wpList Try.prog ops Q (o :: rest) a w := by
  subst hm
  obtain ⟨v', w', hr, h2, h3⟩ := run_appRs o.type w base v us news h A c hA hsl hlen hbase
  refine BigFrame.wpList_want hw fun _ hK' => ?_
  unfold Oper.wp execOp
  simp only [ho, resolve, invoke, builtin, Sem.run_bind, Sem.run_pure, Result.andThen_ok, List.map_toArray, List.map_cons, List.map_nil, hs, hx, hr]
  exact hK' _ _ (hK v' w' h2 h3)
set_option maxRecDepth 100000 in
/-- append of bytes to bytes of the call's own, and where they lie then -/
theorem run_appSX (ty : TypeId) (w : World) (base g n cap : Nat) (l news : List UInt8) (h : Ow w base (.slice (some ⟨g, 0, none⟩) n cap) l) (A : Option Addr) (c B : Nat) (hr : Rd w B A news)
    (hlen : l.length + news.length ≤ 10000000) (hbase : base ≤ w.heap.size) :
    ∃ g' n' cap' w', (Builtin.append_ #[23, 23] ty #[.slice (some ⟨g, 0, none⟩) n cap, .slice A news.length c]).run Try.prog w = .ok (.slice (some ⟨g', 0, none⟩) n' cap') w' ∧ Ow w' base (.slice (some ⟨g', 0, none⟩) n' cap') (l ++ news) ∧ w.grownBy w' (some g) ∧ (g' = g ∨ g' = w.heap.size) := by
  obtain ⟨i0, hi, hz0, hz1, hz2⟩ := info_parts info5
  have hx := h
  obtain ⟨hcl, hh⟩ := h
  rcases hh with ⟨e, _⟩ | ⟨g', cap', cur, e, hbg, hg, hnc, hcm, hcs, htake⟩
  · cases e
  cases e
  by_cases h0 : 0 < news.length
  case neg =>
    obtain rfl : news = [] := List.eq_nil_of_length_eq_zero (by omega)
    rw [List.append_nil]
    cases A with
    | none =>
      refine ⟨g, l.length, cap, w, ?_, hx, World.grownBy.refl w _, .inl rfl⟩
      simp [Builtin.append_, run_underlying Try.underlying23, sizeOf, typeInfo, hi, Builtin.lenOf, Builtin.firstCells, hnc, storeCells]
    | some ad =>
      have hr2 := run_append_room (P := Try.prog) w 23 ty 5 i0 Try.underlying23 hi g l.length cap cur hg ad 0 c [] (by simp) (fun j u hu => by simp at hu) (fun u hu => by simp at hu) (by omega) (by rw [hz1, hcs]; simp; omega)
      refine ⟨g, l.length, cap, _, hr2, ⟨by simp [cs], .inr ⟨g, cap, _, rfl, hbg, setRow_heap w g cur _ _ _ hg, hnc, hcm, ?_, ?_⟩⟩, ⟨rfl, rfl, rfl, by simp, fun k _ hk => setRow_other w g k _ (fun e => hk (by simp [e]))⟩, .inl rfl⟩
      · simp [hcs]
      · simp; simpa using htake
  case pos =>
  obtain ⟨b, o, rfl, hb, hc⟩ := hr h0
  have hnews : ∀ j u, (cs news)[j]? = some u → w.cell? ((⟨b, o, none⟩ : Addr).add j) = some u := by
    intro j u hu
    have hj : j < news.length := by
      have := (List.getElem?_eq_some_iff.1 hu).1
      simpa [cs] using this
    rw [cs_get news j hj] at hu
    rw [Addr.add_lit, hc j hj]
    exact hu
  have hlen2 : (l ++ news).length = l.length + news.length := by simp
  by_cases hroom : l.length + news.length ≤ cap
  · have hr2 := run_append_room (P := Try.prog) w 23 ty 5 i0 Try.underlying23 hi g l.length cap cur hg ⟨b, o, none⟩ news.length c (cs news) (by rw [hz1, cs_length, Nat.mul_one]) hnews (cs_one _) hroom (by rw [hz1, cs_length, hcs]; omega)
    refine ⟨g, _, cap, _, hr2, ⟨by simp [cs], .inr ⟨g, cap, _, by rw [hlen2], hbg, setRow_heap w g cur _ _ _ hg, by rw [hlen2]; exact hroom, hcm, ?_, ?_⟩⟩, ⟨rfl, rfl, rfl, by simp, fun k _ hk => setRow_other w g k _ (fun e => hk (by simp [e]))⟩, .inl rfl⟩
    · simp only [List.size_toArray, List.length_append, List.length_take, List.length_drop, Array.length_toList, cs_length]
      rw [hz1]
      omega
    · rw [hz1, htake, ← cs_append, hlen2, ← hlen2, Nat.mul_one, ← cs_length]
      exact List.take_left
  · have holds : ∀ j u, (cs l)[j]? = some u → w.cell? ((⟨g, 0, none⟩ : Addr).add j) = some u := World.ownsRow.cells hx (g := g) rfl
    have hr2 := run_append_grow (P := Try.prog) w 23 ty 5 i0 (.int .u8 0) Try.underlying23 hi hz0 ⟨g, 0, none⟩ l.length cap (cs l) (by rw [cs_length, hz1, Nat.mul_one]) holds ⟨b, o, none⟩ news.length c (cs news) (by rw [hz1, cs_length, Nat.mul_one]) hnews (by omega) (by omega) (by rw [hz2]; exact growslice_fits (by omega) (by omega))
    have hge := grownCap_ge w (l.length + news.length) cap 5
    have hcm2 : grownCap w (l.length + news.length) cap 5 ≤ maxLen := grownCap_le_maxLen w (l.length + news.length) cap 5 (by unfold maxLen; omega)
    have hzc : (Value.int .u8 0).cells.size = 1 := rfl
    refine ⟨w.heap.size, _, _, _, hr2, ⟨by simp [cs], .inr ⟨w.heap.size, _, _, by rw [hlen2], hbase, heap_alloc_new w.drew _, by rw [hlen2]; exact hge, hcm2, ?_, ?_⟩⟩, ⟨rfl, rfl, rfl, by simp, fun k hk _ => heap_alloc_old w.drew _ hk⟩, .inr rfl⟩
    · simp only [Array.size_append, List.size_toArray, size_zeroCells, hzc, cs_length]
      omega
    · simp only [Array.toList_append]
      rw [← cs_append, hlen2, ← hlen2, Nat.mul_one, ← cs_length]
      exact List.take_left
set_option maxRecDepth 100000 in
theorem wpList_appSX {ops : Array Oper} {rest : List Oper} {o : Oper} {a : Act} {Q : Exit → Act → World → Prop} (w : World) (hw : Region.wanted o (yielded ops a.tmps) = true) (s x : Operand)
    (ho : o.op = .call { callee := .builtin .append, args := #[s, x], argTypes := #[23, 23] })
    (base g n cap : Nat) (l news : List UInt8) (hs : a.eval s = .slice (some ⟨g, 0, none⟩) n cap) (h : Ow w base (.slice (some ⟨g, 0, none⟩) n cap) l) (A : Option Addr) (m c B : Nat) (hx : a.eval x = .slice A m c) (hm : m = news.length)
    (hr : Rd w B A news) (hlen : l.length + news.length ≤ 10000000) (hbase : base ≤ w.heap.size)
    (hK : ∀ g' n' cap' w', Ow w' base (.slice (some ⟨g', 0, none⟩) n' cap') (l ++ news) → w.grownBy w' (some g) → (g' = g ∨ g' = w.heap.size) → wpList Try.prog ops Q rest (a.put o.dst (.slice (some ⟨g', 0, none⟩) n' cap')) w') : wpList Try.prog ops Q (o :: rest) a w := by
  subst hm
  obtain ⟨g', n', cap', w', hr, h2, h3, h4⟩ := run_appSX o.type w base g n cap l news h A c B hr hlen hbase
  refine BigFrame.wpList_want hw fun _ hK' => ?_
  unfold Oper.wp execOp
  simp only [ho, resolve, invoke, builtin, Sem.run_bind, Sem.run_pure, Result.andThen_ok, List.map_toArray, List.map_cons, List.map_nil, hs, hx, hr]
  exact hK' _ _ (hK g' n' cap' w' h2 h3 h4)
/-- the cells at A are the slices us (blocks below B) -/
def RC (w : World) (B : Nat) (A : Option Addr) (us : List Value) : Prop := 0 < us.length → ∃ b o, A = some ⟨b, o, none⟩ ∧ b < B ∧ ∀ j u, us[j]? = some u → w.cell? ⟨b, o + j, none⟩ = some u
set_option maxRecDepth 100000 in
theorem RC.go {w w' : World} {A : Option Addr} {us : List Value} (h : RC w w.heap.size A us) (hb : Below w.heap.size w w') : RC w' w'.heap.size A us := by
  intro h0
  obtain ⟨b, o, e, h1, h2⟩ := h h0
  have := hb.size
  exact ⟨b, o, e, by omega, fun j u hu => (hb.cell (p := ⟨b, o + j, none⟩) h1).trans (h2 j u hu)⟩
set_option maxRecDepth 100000 in
theorem RC.at_ {w : World} {B : Nat} {A : Option Addr} {us : List Value} (h : RC w B A us) : 0 < us.length → ∃ ad, A = some ad ∧ ∀ j u, us[j]? = some u → w.cell? (ad.add j) = some u := by
  intro h0
  obtain ⟨b, o, e, -, h2⟩ := h h0
  exact ⟨⟨b, o, none⟩, e, fun j u hu => by rw [Addr.add_lit]; exact h2 j u hu⟩
set_option maxRecDepth 100000 in
theorem RC.mat {w : World} {A : Option Addr} {us : List Value} {l : List (List UInt8)} (h : RC w w.heap.size A us) (hs : SEs w us l) : Mat w w.heap.size A l := by
  intro h0
  obtain ⟨b, o, e, h1, h2⟩ := h (by rw [hs.1]; exact h0)
  refine ⟨b, o, e, h1, fun j hj => ?_⟩
  have hju : j < us.length := by rw [hs.1]; exact hj
  obtain ⟨A1, c1, e1, k1, k2, k3⟩ := hs.2 j hju hj
  exact ⟨A1, c1, by rw [h2 j us[j] (List.getElem?_eq_getElem hju), e1], k1, k2, k3⟩
/-- what Push answers, and where it lies: where the arguments do (a, b), or in new memory (from block N on) -/
def AnsPushD (N : Nat) (a b : Value) (W' : World) (e : Ending) (f : Fd) (rs : List (List UInt8)) : Prop := ∃ A1 c1 A2 c2 us, e = .returned (.tuple #[.agg #[.slice A1 f.buf.length c1, .int .i64 f.skip, .int .i64 f.bad], .slice A2 rs.length c2]) ∧ f.buf.length ≤ c1 ∧ c1 ≤ 9223372036854775807 ∧ Rd W' W'.heap.size A1 f.buf ∧ rs.length ≤ c2 ∧ c2 ≤ 9223372036854775807 ∧ SEs W' us rs ∧ RC W' W'.heap.size A2 us ∧
  (∀ g, g < N → AwV g a → AwV g b → AwV g (.slice A1 f.buf.length c1) ∧ ∀ u ∈ us, AwV g u) ∧ (0 < rs.length → ∃ b o, A2 = some ⟨b, o, none⟩ ∧ N ≤ b)
set_option maxRecDepth 100000 in
theorem AnsPushD.ansN {N : Nat} {a b : Value} {W' : World} {e : Ending} {f : Fd} {rs : List (List UInt8)} (h : AnsPushD N a b W' e f rs) : AnsPushN N W' e f rs := by
  obtain ⟨A1, c1, A2, c2, us, h1, h2, h3, h4, h5, h6, h7, h8, -, h9⟩ := h
  exact ⟨A1, c1, A2, c2, h1, h2, h3, h4, h5, h6, h8.mat h7, h9⟩
set_option maxRecDepth 100000 in
theorem AnsPushD.ans {N : Nat} {a b : Value} {W' : World} {e : Ending} {f : Fd} {rs : List (List UInt8)} (h : AnsPushD N a b W' e f rs) : AnsPush W' e f rs := by
  obtain ⟨A1, c1, A2, c2, us, h1, h2, h3, h4, h5, h6, h7, h8, -⟩ := h
  exact ⟨A1, c1, A2, c2, h1, h2, h3, h4, h5, h6, h8.mat h7⟩
end Go.Proofs.Ytplekllhnpljiaa
/- A stream of frames that is read place by place, plain. -/

namespace Go.Proofs.Ytplekllhnpljiaa
open Go.RowKit

set_option maxRecDepth 100000 in
theorem nF_prefix {p : List UInt8} (q : List UInt8) (h : 2 ≤ p.length) : nF (p ++ q) = nF p := by
  match p, h with
  | x :: y :: t, _ => rfl
/-- bytes that wait -/
def Wait (w : List UInt8) : Prop := w.length < 2 ∨ (1 ≤ nF w ∧ nF w ≤ 1024 ∧ w.length < nF w + 2)
set_option maxRecDepth 100000 in
theorem push_wait (bad : Int) : ∀ (q p : List UInt8), Wait (p ++ q) → pushF ⟨p, 0, bad⟩ q = (⟨p ++ q, 0, bad⟩, [])
  | [], p, _ => by simp [pushF]
  | c :: r, p, h => by
    have ho : oneF ⟨p, 0, bad⟩ c = (⟨p ++ [c], 0, bad⟩, []) := by
      unfold oneF
      rw [if_neg (by simp)]
      by_cases h2 : p.length + 1 < 2
      · rw [if_pos h2]
      · rw [if_neg h2]
        have e : nF (p ++ c :: r) = nF (p ++ [c]) := by rw [show p ++ c :: r = (p ++ [c]) ++ r by simp]; exact nF_prefix r (by simp; omega)
        rcases h with h | ⟨h3, h4, h5⟩
        · simp at h; omega
        · rw [e] at h3 h4 h5
          simp at h5
          obtain ⟨N, hN⟩ : ∃ N, N = nF (p ++ [c]) := ⟨_, rfl⟩
          simp only [← hN] at h3 h4 h5 ⊢
          rw [if_neg (by omega), if_pos (by omega)]
    show ((pushF (oneF ⟨p, 0, bad⟩ c).1 r).1, rowF (oneF ⟨p, 0, bad⟩ c).2 ++ (pushF (oneF ⟨p, 0, bad⟩ c).1 r).2) = _
    rw [ho, push_wait bad r (p ++ [c]) (by simpa using h)]
    simp [rowF]
set_option maxRecDepth 100000 in
theorem push_over (bad : Int) : ∀ (l : List UInt8) (s : Int), (l.length : Int) ≤ s → pushF ⟨[], s, bad⟩ l = (⟨[], s - l.length, bad⟩, [])
  | [], s, _ => by simp [pushF]
  | c :: r, s, h => by
    have h' : ((r.length + 1 : Nat) : Int) ≤ s := h
    have ho : oneF ⟨[], s, bad⟩ c = (⟨[], s - 1, bad⟩, []) := by
      unfold oneF
      rw [if_pos (by show 0 < s; omega)]
    show ((pushF (oneF ⟨[], s, bad⟩ c).1 r).1, rowF (oneF ⟨[], s, bad⟩ c).2 ++ (pushF (oneF ⟨[], s, bad⟩ c).1 r).2) = _
    rw [ho, push_over bad r (s - 1) (by omega)]
    simp [rowF]
    omega
set_option maxRecDepth 100000 in
theorem push_head (bad : Int) (l : List UInt8) (h2 : 2 ≤ l.length) (h : nF l = 0 ∨ 1024 < nF l) : pushF ⟨[], 0, bad⟩ (l.take 2) = (⟨[], (nF l : Nat), inc64 bad⟩, []) := by
  match l, h2 with
  | x :: y :: t, _ =>
    have hn : nF ([x] ++ [y]) = nF (x :: y :: t) := rfl
    obtain ⟨N, hN⟩ : ∃ N, N = nF (x :: y :: t) := ⟨_, rfl⟩
    rw [← hN] at hn h ⊢
    have h1 : oneF ⟨[], 0, bad⟩ x = (⟨[x], 0, bad⟩, []) := by
      unfold oneF
      rw [if_neg (by simp), if_pos (by simp)]
      rfl
    have h2 : oneF ⟨[x], 0, bad⟩ y = (⟨[], (N : Nat), inc64 bad⟩, []) := by
      unfold oneF
      rw [if_neg (by simp), if_neg (by simp)]
      simp only [hn]
      rw [if_pos h]
    show ((pushF (oneF ⟨[], 0, bad⟩ x).1 [y]).1, rowF (oneF ⟨[], 0, bad⟩ x).2 ++ (pushF (oneF ⟨[], 0, bad⟩ x).1 [y]).2) = _
    rw [h1]
    show ((oneF ⟨[x], 0, bad⟩ y).1, rowF [] ++ (rowF (oneF ⟨[x], 0, bad⟩ y).2 ++ [])) = _
    rw [h2]
    rfl
set_option maxRecDepth 100000 in
theorem push_frame (bad : Int) (l : List UInt8) (h2 : nF l + 2 ≤ l.length) (h : 1 ≤ nF l ∧ nF l ≤ 1024) : pushF ⟨[], 0, bad⟩ (l.take (nF l + 2)) = (⟨[], 0, bad⟩, [(l.drop 2).take (nF l)]) := by
  match l, (show 2 ≤ l.length by omega) with
  | x :: y :: t, _ =>
    have hN : nF (x :: y :: t) = 256 * x.toNat + y.toNat := rfl
    obtain ⟨N, hN'⟩ : ∃ N, N = nF (x :: y :: t) := ⟨_, rfl⟩
    rw [← hN'] at hN h h2 ⊢
    have h2' : N ≤ t.length := by simpa using h2
    have hy := y.toNat_lt
    have hl : (t.take N).length = N := by rw [List.length_take]; omega
    have e : packW (t.take N) = x :: y :: t.take N := by
      rw [(pack_len (b := t.take N) (by rw [hl]; exact h)).1, hl]
      have e1 : UInt8.ofNat (N / 256) = x := by
        rw [show N / 256 = x.toNat by omega]; exact UInt8.ofNat_toNat
      have e2 : UInt8.ofNat (N % 256) = y := by
        rw [show N % 256 = y.toNat by omega]; exact UInt8.ofNat_toNat
      rw [e1, e2]
    show pushF ⟨[], 0, bad⟩ (x :: y :: t.take N) = (⟨[], 0, bad⟩, [t.take N])
    rw [← e]
    exact push_whole (by rw [hl]; exact h) bad

/-- where a stream is at a place of all its bytes -/
structure AtF (F : Fd) (L : List UInt8) (k : Nat) (s bad : Int) (R : List (List UInt8)) : Prop where
  run : pushF F (L.take k) = (⟨[], s, bad⟩, R)
  le : k ≤ L.length
  lo : 0 ≤ s
  hi : s ≤ 65535
  ends : 0 < s → k = L.length
set_option maxRecDepth 100000 in
theorem at_start {l : List UInt8} {s b : Int} (h : RightFd ⟨l, s, b⟩) (v : List UInt8) : pushF ⟨l, s, b⟩ v = pushF ⟨[], s, b⟩ (l ++ v) := by
  obtain ⟨h1, h2, h3, h4⟩ := h
  simp only at h1 h2 h3 h4
  have e : pushF ⟨[], s, b⟩ l = (⟨l, s, b⟩, []) := by
    by_cases h0 : 0 < s
    · rw [List.eq_nil_of_length_eq_zero (h3 h0)]
      rfl
    · obtain rfl : s = 0 := by omega
      exact push_wait b l [] h4
  rw [pushF_append, e]
  simp
set_option maxRecDepth 100000 in
theorem at_begin {l : List UInt8} {s b : Int} (h : RightFd ⟨l, s, b⟩) (L : List UInt8) (k : Nat) (hk : k = min s.toNat L.length) : AtF ⟨[], s, b⟩ L k (s - k) b [] := by
  obtain ⟨h1, h2, -⟩ := h
  simp only at h1 h2
  have hl : (L.take k).length = k := by rw [List.length_take]; omega
  refine ⟨?_, by omega, by omega, by omega, fun h => by omega⟩
  rw [push_over b (L.take k) s (by rw [hl]; omega), hl]
set_option maxRecDepth 100000 in
theorem at_bad {F : Fd} {L : List UInt8} {k : Nat} {bad : Int} {R : List (List UInt8)} (h : AtF F L k 0 bad R) (h2 : k + 2 ≤ L.length) (n k' : Nat) (hn : n = nF (L.drop k)) (hb : n = 0 ∨ 1024 < n) (hk' : k' = min (k + 2 + n) L.length) :
    AtF F L k' ((k + 2 + n : Nat) - (k' : Nat) : Int) (inc64 bad) R := by
  have hlt := nF_lt (L.drop k)
  rw [← hn] at hlt
  refine ⟨?_, by omega, by omega, by omega, fun h => by omega⟩
  have e : L.take k' = L.take k ++ ((L.drop k).take 2 ++ ((L.drop (k + 2)).take (k' - (k + 2)))) := by
    rw [show k' = k + (2 + (k' - (k + 2))) by omega, List.take_add, List.take_add, List.drop_drop]
    rw [show k + (2 + (k' - (k + 2))) - (k + 2) = k' - (k + 2) by omega]
  have hh := push_head bad (L.drop k) (by rw [List.length_drop]; omega) (by rw [← hn]; exact hb)
  have hl : ((L.drop (k + 2)).take (k' - (k + 2))).length = k' - (k + 2) := by rw [List.length_take, List.length_drop]; omega
  rw [e, pushF_append, h.run]
  simp only
  rw [pushF_append, hh, ← hn]
  simp only
  rw [push_over (inc64 bad) _ (n : Nat) (by rw [hl]; omega), hl]
  simp
  omega
set_option maxRecDepth 100000 in
theorem at_row {F : Fd} {L : List UInt8} {k : Nat} {bad : Int} {R : List (List UInt8)} (h : AtF F L k 0 bad R) (n : Nat) (hn : n = nF (L.drop k)) (h1 : 1 ≤ n) (h2 : n ≤ 1024) (h3 : k + 2 + n ≤ L.length) :
    AtF F L (k + 2 + n) 0 bad (R ++ [(L.drop (k + 2)).take n]) := by
  refine ⟨?_, by omega, by omega, by omega, fun h => by omega⟩
  have e : L.take (k + 2 + n) = L.take k ++ (L.drop k).take (n + 2) := by
    rw [show k + 2 + n = k + (n + 2) by omega, List.take_add]
  have hh := push_frame bad (L.drop k) (by rw [List.length_drop]; omega) (by omega)
  rw [← hn, List.drop_drop] at hh
  rw [e, pushF_append, h.run]
  simp only
  rw [hh]
set_option maxRecDepth 100000 in
theorem at_end {F : Fd} {L : List UInt8} {k : Nat} {s bad : Int} {R : List (List UInt8)} (h : AtF F L k s bad R) (hw : L.length - k < 2 ∨ (1 ≤ nF (L.drop k) ∧ nF (L.drop k) ≤ 1024 ∧ L.length < k + 2 + nF (L.drop k))) :
    pushF F L = (⟨L.drop k, s, bad⟩, R) := by
  have hk := h.le
  have e : pushF F L = pushF F (L.take k ++ L.drop k) := by rw [List.take_append_drop]
  rw [e, pushF_append, h.run]
  simp only
  by_cases h0 : 0 < s
  · rw [List.drop_of_length_le (by have := h.ends h0; omega)]
    simp [pushF]
  · obtain rfl : s = 0 := by have := h.lo; omega
    have hl : (L.drop k).length = L.length - k := by rw [List.length_drop]
    rw [push_wait bad (L.drop k) [] (by
      rcases hw with hw | ⟨h1, h2, h3⟩
      · exact .inl (by simpa using hw)
      · exact .inr ⟨by simpa using h1, by simpa using h2, by simp only [List.nil_append]; omega⟩)]
    simp
set_option maxRecDepth 100000 in
theorem AtF.rows {F : Fd} {L : List UInt8} {k : Nat} {s bad : Int} {R : List (List UInt8)} (h : AtF F L k s bad R) : R.length ≤ k := by
  have h1 := push_len (L.take k) F
  rw [h.run, List.length_take] at h1
  simp only at h1
  omega
end Go.Proofs.Ytplekllhnpljiaa
