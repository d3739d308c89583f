
/- Questions in memory; rows of slices that the call owns. -/
import Derived.Test.YtcfncbbdlbdbnaaDoorPrW
import Derived.Test.YtcfncbbdlbdbnaaDoorPrJ
import Derived.Deep.Slices
namespace Go.Proofs.YtcfncbbdlbdbnaaDoor
open Go.ChangeShapes Go.WideShapes Go.ChangeAt Go.RowKit

/-- a question: kind, key, bytes, tag -/
structure Qn where
  kd : UInt8
  ky : UInt8
  bb : UInt8
  tag : List UInt8
/-- the slice at the address A reads as the questions ls -/
def Asks (w : World) (B : Nat) (A : Option Addr) (ls : List Qn) : Prop :=
  0 < ls.length → ∃ b o, A = some ⟨b, o, none⟩ ∧ b < B ∧ ∀ j (h : j < ls.length), ∃ T tc, w.cell? ⟨b, o + j * 4, none⟩ = some (.int .u8 (ls[j].kd.toNat : Int)) ∧ w.cell? ⟨b, o + j * 4 + 1, none⟩ = some (.int .u8 (ls[j].ky.toNat : Int)) ∧ w.cell? ⟨b, o + j * 4 + 2, none⟩ = some (.int .u8 (ls[j].bb.toNat : Int)) ∧
    w.cell? ⟨b, o + j * 4 + 3, none⟩ = some (.slice T ls[j].tag.length tc) ∧ ls[j].tag.length ≤ tc ∧ tc ≤ 9223372036854775807 ∧ Rd w B T ls[j].tag

set_option maxRecDepth 100000 in
theorem asks_in {H : Type} {enc : TypeId × Value → H} {W : World} {base fuel : Nat} {spare : Nat → Bool} {held : Bool} {a : Option Addr} {n c : Nat} {y : DataW H × List MemPlace}
    (hf : DataW.trod enc Tryd.prog W base spare held fuel 39 [.slice a n c] = some y) : ∃ ls : List Qn, n = ls.length ∧ ls.length ≤ c ∧ c ≤ 9223372036854775807 ∧ Asks W W.heap.size a ls := by
  rcases Go.Deep.open_slice Tryd.underlying39 hf with ⟨hcs, _⟩ | ⟨x, len, cap, m, k, D, Pl, hcs, hb, hl, hm, hmm, _, hrow⟩
  · simp at hcs
    obtain ⟨rfl, rfl, rfl⟩ := hcs
    exact ⟨[], rfl, by simp, by omega, fun h => absurd h (by simp)⟩
  · simp at hcs
    obtain ⟨rfl, rfl, rfl⟩ := hcs
    have hnm : n ≤ m := by rw [hmm]; split <;> omega
    have ce : Tryd.prog.cellsOf 42 = 4 := by kernel_rfl
    have c1 : Tryd.prog.cellsOf 5 = 1 := by kernel_rfl
    have c2 : Tryd.prog.cellsOf 25 = 1 := by kernel_rfl
    rw [ce] at hrow
    have each : ∀ j, j < n → ∃ q : Qn, ∃ T tc, W.cell? (x.add (j * 4)) = some (.int .u8 (q.kd.toNat : Int)) ∧ W.cell? (x.add (j * 4 + 1)) = some (.int .u8 (q.ky.toNat : Int)) ∧ W.cell? (x.add (j * 4 + 2)) = some (.int .u8 (q.bb.toNat : Int)) ∧ W.cell? (x.add (j * 4 + 3)) = some (.slice T q.tag.length tc) ∧ q.tag.length ≤ tc ∧ tc ≤ 9223372036854775807 ∧ Rd W W.heap.size T q.tag := by
      intro j hj
      obtain ⟨cs', h1, h2⟩ := hrow j (by omega)
      obtain ⟨_, hlen, hcell⟩ := World.cells?_some h1
      obtain ⟨xs, k', hk, hxy, _, hxl, hel⟩ := DataW.trod_struct Tryd.underlying42 h2
      have k0 : DataW.trod enc Tryd.prog W base spare held k' 5 ((cs'.drop 0).take (Tryd.prog.cellsOf 5)) = xs[0]? := hel 0 _ rfl
      have k1 : DataW.trod enc Tryd.prog W base spare held k' 5 ((cs'.drop 1).take (Tryd.prog.cellsOf 5)) = xs[1]? := hel 1 _ rfl
      have k2 : DataW.trod enc Tryd.prog W base spare held k' 5 ((cs'.drop 2).take (Tryd.prog.cellsOf 5)) = xs[2]? := hel 2 _ rfl
      have k3 : DataW.trod enc Tryd.prog W base spare held k' 25 ((cs'.drop 3).take (Tryd.prog.cellsOf 25)) = xs[3]? := hel 3 _ rfl
      rw [c1] at k0 k1 k2
      rw [c2] at k3
      have hxl4 : xs.length = 4 := hxl
      rw [List.getElem?_eq_getElem (by omega)] at k0 k1 k2 k3
      match cs', hlen, hcell, k0, k1, k2, k3 with
      | [v0, v1, v2, v3], _, hcell, k0, k1, k2, k3 =>
        have e0 := hcell 0 (by omega)
        have e1 := hcell 1 (by omega)
        have e2 := hcell 2 (by omega)
        have e3 := hcell 3 (by omega)
        rw [Go.Deep.add_add] at e0 e1 e2 e3
        obtain ⟨z0, f0, -, w0⟩ := DataW.trod_int Tryd.underlying5 k0
        obtain ⟨z1, f1, -, w1⟩ := DataW.trod_int Tryd.underlying5 k1
        obtain ⟨z2, f2, -, w2⟩ := DataW.trod_int Tryd.underlying5 k2
        have k3' : DataW.trod enc Tryd.prog W base spare held k' 25 [v3] = _ := k3
        obtain ⟨T, tn, tc, f3⟩ := Go.Joins.slice_form Tryd.underlying25 k3'
        have g0 : [v0] = [Value.int .u8 z0] := f0
        have g1 : [v1] = [Value.int .u8 z1] := f1
        have g2 : [v2] = [Value.int .u8 z2] := f2
        simp only [List.cons.injEq, and_true] at g0 g1 g2 f3
        subst g0 g1 g2 f3
        obtain ⟨l, rfl, p1, p2, p3⟩ := bytes_in k3'
        have b0 := u8_bd w0
        have b1 := u8_bd w1
        have b2 := u8_bd w2
        refine ⟨⟨UInt8.ofNat z0.toNat, UInt8.ofNat z1.toNat, UInt8.ofNat z2.toNat, l⟩, T, tc, ?_, ?_, ?_, by simpa using e3, p1, p2, p3⟩
        · rw [show ((UInt8.ofNat z0.toNat).toNat : Int) = z0 by rw [UInt8.toNat_ofNat']; omega]; simpa using e0
        · rw [show ((UInt8.ofNat z1.toNat).toNat : Int) = z1 by rw [UInt8.toNat_ofNat']; omega]; simpa using e1
        · rw [show ((UInt8.ofNat z2.toNat).toNat : Int) = z2 by rw [UInt8.toNat_ofNat']; omega]; simpa using e2
    haveI : Inhabited Qn := ⟨⟨0, 0, 0, []⟩⟩
    obtain ⟨f, hfe⟩ := Go.Deep.choose_lt each
    refine ⟨(List.range n).map f, by simp, by simpa using hl, by simpa [maxLen] using hm, fun h0 => ?_⟩
    have h0' : 0 < n := by simpa using h0
    obtain ⟨b, o, spot⟩ := x
    obtain ⟨_, _, hc0, _⟩ := hfe 0 h0'
    have hspot : spot = none := by simpa [Addr.add] using World.cell?_spot hc0
    subst hspot
    refine ⟨b, o, rfl, World.block_lt_of_cell? W ⟨b, o, none⟩ (by simpa [Addr.add] using hc0), fun j hj => ?_⟩
    have hj' : j < n := by simpa using hj
    obtain ⟨T, tc, e0, e1, e2, e3, p1, p2, p3⟩ := hfe j hj'
    rw [Addr.add_lit] at e0 e1 e2 e3
    have hg : ((List.range n).map f)[j] = f j := by simp
    rw [hg]
    exact ⟨T, tc, e0, e1, e2, e3, p1, p2, p3⟩

/-- v is the call's own slice of slices (from block base on), with the values us -/
def OwM (w : World) (base : Nat) (v : Value) (us : List Value) : Prop := w.ownsRow base 25 1 v us.length us
theorem infoM : (Tryd.prog.info? 25).map (fun i => (i.zero, i.size, i.bytes)) = some (some (.slice none 0 0), 1, 24) := by kernel_rfl
/-- the cells at A are the values us -/
def CM (w : World) (B : Nat) (A : Option Addr) (us : List Value) : Prop := 0 < us.length → ∃ b o, A = some ⟨b, o, none⟩ ∧ b < B ∧ ∀ j (h : j < us.length), w.cell? ⟨b, o + j, none⟩ = some us[j]
theorem CM.below {w w' : World} {B B' : Nat} {A : Option Addr} {us : List Value} (h : CM w B A us) (hb : Below B' w w') (hB : B ≤ B') : CM w' B A us := by
  intro h0
  obtain ⟨b, o, e, h1, h2⟩ := h h0
  exact ⟨b, o, e, h1, fun j hj => (hb.cell (p := ⟨b, o + j, none⟩) (by show b < B'; omega)).trans (h2 j hj)⟩
theorem CM.more {w : World} {B B' : Nat} {A : Option Addr} {us : List Value} (h : CM w B A us) (hB : B ≤ B') : CM w B' A us := by
  intro h0
  obtain ⟨b, o, e, h1, h2⟩ := h h0
  exact ⟨b, o, e, by omega, h2⟩
/-- a value reads as a row of bytes -/
def VM (w : World) (B : Nat) (v : Value) (g : List UInt8) : Prop := ∃ A c, v = .slice A g.length c ∧ g.length ≤ c ∧ c ≤ 9223372036854775807 ∧ Rd w B A g
def VMs (w : World) (B : Nat) (us : List Value) (gs : List (List UInt8)) : Prop := us.length = gs.length ∧ ∀ j (h : j < us.length) (h' : j < gs.length), VM w B us[j] gs[j]
theorem VM.below {w w' : World} {B B' : Nat} {v : Value} {g : List UInt8} (h : VM w B v g) (hb : Below B' w w') (hB : B ≤ B') : VM w' B v g := by
  obtain ⟨A, c, e, h1, h2, h3⟩ := h
  exact ⟨A, c, e, h1, h2, h3.below hb hB⟩
theorem VM.more {w : World} {B B' : Nat} {v : Value} {g : List UInt8} (h : VM w B v g) (hB : B ≤ B') : VM w B' v g := by
  obtain ⟨A, c, e, h1, h2, h3⟩ := h
  exact ⟨A, c, e, h1, h2, h3.more hB⟩
theorem VMs.below {w w' : World} {B B' : Nat} {us : List Value} {gs : List (List UInt8)} (h : VMs w B us gs) (hb : Below B' w w') (hB : B ≤ B') : VMs w' B us gs := ⟨h.1, fun j h1 h2 => (h.2 j h1 h2).below hb hB⟩
theorem VMs.more {w : World} {B B' : Nat} {us : List Value} {gs : List (List UInt8)} (h : VMs w B us gs) (hB : B ≤ B') : VMs w B' us gs := ⟨h.1, fun j h1 h2 => (h.2 j h1 h2).more hB⟩
theorem VMs.snoc {w : World} {B : Nat} {us : List Value} {gs : List (List UInt8)} {v : Value} {g : List UInt8} (h : VMs w B us gs) (hv : VM w B v g) : VMs w B (us ++ [v]) (gs ++ [g]) := by
  refine ⟨by simp [h.1], fun j h1 h2 => ?_⟩
  by_cases hj : j < us.length
  · rw [List.getElem_append_left hj, List.getElem_append_left (by rw [← h.1]; exact hj)]
    exact h.2 j hj _
  · have h3 : j = us.length := by simp at h1; omega
    subst h3
    rw [List.getElem_append_right (Nat.le_refl _), List.getElem_append_right (by rw [h.1]; exact Nat.le_refl _)]
    simpa using hv
theorem VMs.one {w : World} {B : Nat} {us : List Value} {gs : List (List UInt8)} (h : VMs w B us gs) : ∀ u ∈ us, u.oneCell' = true := by
  intro u hu
  obtain ⟨j, hj, rfl⟩ := List.getElem_of_mem hu
  obtain ⟨A, c, e, _⟩ := h.2 j hj (by rw [← h.1]; exact hj)
  rw [e]
  rfl
theorem mat_cm {w : World} {B : Nat} {A : Option Addr} {gs : List (List UInt8)} (h : Mat w B A gs) : ∃ us, us.length = gs.length ∧ VMs w B us gs ∧ CM w B A us := by
  rcases Nat.eq_zero_or_pos gs.length with h0 | h0
  · obtain rfl : gs = [] := List.eq_nil_of_length_eq_zero h0
    exact ⟨[], rfl, ⟨rfl, fun j h1 => absurd h1 (by simp)⟩, fun h => absurd h (by simp)⟩
  · obtain ⟨b, o, rfl, hb, hrow⟩ := h h0
    have each : ∀ j : Fin gs.length, ∃ v : Value, VM w B v gs[j.1] ∧ w.cell? ⟨b, o + j.1, none⟩ = some v := by
      intro j
      obtain ⟨A', c', f1, f2, f3, f4⟩ := hrow j.1 j.2
      exact ⟨_, ⟨A', c', rfl, f2, f3, f4⟩, f1⟩
    obtain ⟨f, hf⟩ := Classical.axiomOfChoice each
    refine ⟨List.ofFn f, by simp, ⟨by simp, fun j h1 h2 => ?_⟩, fun _ => ⟨b, o, rfl, hb, fun j hj => ?_⟩⟩
    · rw [List.getElem_ofFn]; exact (hf ⟨j, h2⟩).1
    · have hj' : j < gs.length := by simpa using hj
      rw [List.getElem_ofFn]; exact (hf ⟨j, hj'⟩).2
theorem cm_mat {w : World} {B : Nat} {A : Option Addr} {us : List Value} {gs : List (List UInt8)} (h1 : VMs w B us gs) (h2 : CM w B A us) : Mat w B A gs := by
  intro h0
  obtain ⟨b, o, e, hb, hc⟩ := h2 (by rw [h1.1]; exact h0)
  refine ⟨b, o, e, hb, fun j hj => ?_⟩
  have hj' : j < us.length := by rw [h1.1]; exact hj
  obtain ⟨A', c', e2, f2, f3, f4⟩ := h1.2 j hj' hj
  exact ⟨A', c', by rw [hc j hj', e2], f2, f3, f4⟩
theorem OwM.form {w : World} {base : Nat} {v : Value} {us : List Value} (h : OwM w base v us) : ∃ A c, v = .slice A us.length c ∧ us.length ≤ c ∧ c ≤ 9223372036854775807 ∧ CM w w.heap.size A us := by
  rcases h.2 with ⟨rfl, h0⟩ | ⟨g, cap, cur, rfl, hb, hg, hn, hcap, hsz, htake⟩
  · obtain rfl : us = [] := List.eq_nil_of_length_eq_zero h0
    exact ⟨none, 0, rfl, by simp, by simp, fun h => absurd h (by simp)⟩
  · refine ⟨some ⟨g, 0, none⟩, cap, rfl, hn, by simpa [maxLen] using hcap, fun _ => ⟨g, 0, rfl, (Array.getElem?_eq_some_iff.1 hg).1, fun j hj => ?_⟩⟩
    have := World.ownsRow.cells h (g := g) rfl j _ (List.getElem?_eq_getElem hj)
    rwa [Addr.add_lit] at this

theorem run_appM (ty : TypeId) (w : World) (base : Nat) (v : Value) (us news : List Value) (h : OwM w base v us) (A : Option Addr) (c B : Nat) (hr : CM w B A news) (hs : ∀ u ∈ news, u.oneCell' = true)
    (hlen : us.length + news.length ≤ 1000000) (hbase : base ≤ w.heap.size) :
    ∃ v' w', (Builtin.append_ #[40, 40] ty #[v, .slice A news.length c]).run Tryd.prog w = .ok v' w' ∧ OwM w' base v' (us ++ news) ∧ w.grownBy w' v.ownBlock := by
  obtain ⟨i0, hi, hz0, hz1, hz2⟩ := info_parts infoM
  by_cases h0 : 0 < news.length
  · obtain ⟨b, o, rfl, _, hc⟩ := hr h0
    obtain ⟨v', w', h1, h2, h3, _⟩ := run_append_own (P := Tryd.prog) w base 40 ty 25 i0 (.slice none 0 0) 1 24 Tryd.underlying40 hi hz0 hz1 hz2 rfl (by decide) v us.length us h ⟨b, o, none⟩ news.length c news (by simp) (fun j u hu => by
        obtain ⟨hj, e⟩ := List.getElem?_eq_some_iff.1 hu
        rw [Addr.add_lit, hc j hj, e]) hs (by unfold maxLen; omega) (by omega) hbase
    exact ⟨v', w', h1, by unfold OwM; rw [List.length_append]; exact h2, h3⟩
  · obtain rfl : news = [] := List.eq_nil_of_length_eq_zero (by omega)
    cases A with
    | some ad =>
      obtain ⟨v', w', h1, h2, h3, _⟩ := run_append_own (P := Tryd.prog) w base 40 ty 25 i0 (.slice none 0 0) 1 24 Tryd.underlying40 hi hz0 hz1 hz2 rfl (by decide) v us.length us h ad 0 c [] rfl (fun j u hu => by simp at hu) (fun u hu => by simp at hu) (by unfold maxLen; omega) (by omega) hbase
      exact ⟨v', w', h1, by simpa [OwM] using h2, h3⟩
    | none =>
      refine ⟨v, w, ?_, by simpa using h, World.grownBy.refl w _⟩
      rcases h.2 with ⟨rfl, _⟩ | ⟨g, cap, cur, rfl, _, _, hnc, _⟩
      · simp [Builtin.append_, run_underlying Tryd.underlying40, sizeOf, typeInfo, hi, Builtin.lenOf, Builtin.firstCells]
      · simp [Builtin.append_, run_underlying Tryd.underlying40, sizeOf, typeInfo, hi, Builtin.lenOf, Builtin.firstCells, hnc, storeCells]
theorem wp_appM {o : Oper} {a : Act} {K : Act → World → Prop} {Q : Exit → Act → World → Prop} (w : World) (s x : Operand)
    (ho : o.op = .call { callee := .builtin .append, args := #[s, x], argTypes := #[40, 40] })
    (base : Nat) (v : Value) (us news : List Value) (hs : a.eval s = v) (h : OwM w base v us) (A : Option Addr) (m c B : Nat) (hx : a.eval x = .slice A m c) (hm : m = news.length)
    (hr : CM w B A news) (hsl : ∀ u ∈ news, u.oneCell' = true) (hlen : us.length + news.length ≤ 1000000) (hbase : base ≤ w.heap.size)
    (hK : ∀ v' w', OwM w' base v' (us ++ news) → Below base w w' → K (a.put o.dst v') w') : o.wp Tryd.prog a w K Q := by
  subst hm
  obtain ⟨v', w', hr, h2, h3⟩ := run_appM o.type w base v us news h A c B hr hsl hlen hbase
  exact Lib.wp_append_run w s x _ _ ho _ _ hs hx v' w' hr (hK v' w' h2 ((Below.refl base w).grown h3 hbase (fun k hk => (World.ownsRow.lt h k hk).1)))
theorem OwM.block {w : World} {base g : Nat} (hb : base ≤ g) (h : w.heap[g]? = some (.cells #[] 25 (0, 0))) : OwM w base (.slice (some ⟨g, 0, none⟩) 0 0) [] :=
  ⟨rfl, .inr ⟨g, 0, #[], rfl, hb, h, Nat.le_refl _, by simp [maxLen], rfl, rfl⟩⟩
theorem CM.block {w : World} {g : Nat} {v : Value} (h : w.heap[g]? = some (.cells #[v] 25 (0, 0))) : CM w w.heap.size (some ⟨g, 0, none⟩) [v] := by
  refine fun _ => ⟨g, 0, rfl, (Array.getElem?_eq_some_iff.1 h).1, fun j hj => ?_⟩
  obtain rfl : j = 0 := by simpa using hj
  exact (cell_of_row _ _ _ _ _ _ h).trans rfl

/-- what is asked of: key, bytes -/
def qK (q : Qn) : List UInt8 := [q.ky % 3]
def qB (q : Qn) : List UInt8 := [q.bb % 3]
/-- the tag that is checked -/
def qT (gs : List (List UInt8)) (q : Qn) : List UInt8 := if q.kd.toNat % 4 = 1 then cutF (qK q) (qB q) else if q.kd.toNat % 4 = 2 ∧ 0 < gs.length then gs.getD (q.kd.toNat / 4 % gs.length) [] else q.tag
def qL (l : List Pr) (q : Qn) : List Pr := if q.kd.toNat % 4 = 0 then tabF l (qK q) (qB q) else l
def qG (gs : List (List UInt8)) (q : Qn) : List (List UInt8) := if q.kd.toNat % 4 = 0 then gs ++ [cutF (qK q) (qB q)] else gs
def qF (l : List Pr) (f : Bool) (gs : List (List UInt8)) (q : Qn) : Bool := if q.kd.toNat % 4 = 0 then f else (f || (decide (qT gs q = cutF (qK q) (qB q)) && !decide ((qK q, qB q) ∈ l)))
def qY (i : Bool) (l : List Pr) (gs : List (List UInt8)) (q : Qn) : Bool := if q.kd.toNat % 4 = 0 then true else (decide (qT gs q = cutF (qK q) (qB q)) && (decide ((qK q, qB q) ∈ l) || !i))
/-- asked's answer -/
def AnsA (G0 : Option Addr) (B0 : Nat) (W' : World) (e : Ending) (i : Bool) (l : List Pr) (f y : Bool) (gs : List (List UInt8)) : Prop := ∃ n A c m G d, e = .returned (.tuple #[.agg #[.bool i, .slice A n c, .bool f], .bool y, .slice G m d]) ∧ n = l.length ∧ n ≤ c ∧ c ≤ 9223372036854775807 ∧ m = gs.length ∧ m ≤ d ∧ d ≤ 9223372036854775807 ∧ Tab W' W'.heap.size A l ∧ Mat W' W'.heap.size G gs ∧ ∀ p, G = some p → (G0 = some p ∨ (B0 ≤ p.block ∧ p.block < W'.heap.size))
end Go.Proofs.YtcfncbbdlbdbnaaDoor
