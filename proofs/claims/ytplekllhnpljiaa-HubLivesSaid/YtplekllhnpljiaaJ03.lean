
/- The call's own rows of bytes ([][]byte that is appended to): no byte lies in its block, so the bytes that its rows tell of stay. -/
import Derived.Test.YtplekllhnpljiaaJ02
import Derived.Test.YtplekllhnpljiaaJ01
import Derived.Deep.RegionLaw
import Derived.Deep.DeepMust
import Derived.Deep.RegionHeld3
import Derived.StillTailTactics
import Derived.Test.YtplekllhnpljiaaRows
import Derived.WalkKit
import Derived.WalkLawsBesides
import Derived.WalkSpells
import Derived.Lib.Hide
namespace Go.Proofs.Ytplekllhnpljiaa
open Go.RowKit

/-- a cell that reads as a row -/
def SE (w : World) (B : Nat) (v : Value) (p : List UInt8) : Prop := ∃ A c, v = .slice A p.length c ∧ p.length ≤ c ∧ c ≤ 9223372036854775807 ∧ Rd w B A p
def SEs (w : World) (us : List Value) (l : List (List UInt8)) : Prop := us.length = l.length ∧ ∀ j (h : j < us.length) (h' : j < l.length), SE w w.heap.size us[j] l[j]
set_option maxRecDepth 100000 in
theorem SEs.nil {w : World} : SEs w [] [] := ⟨rfl, fun j h => absurd h (by simp)⟩
set_option maxRecDepth 100000 in
theorem SE.keep {w w' : World} {v : Value} {p : List UInt8} (h : SE w w.heap.size v p) (hk : ∀ A : Option Addr, ∀ l : List UInt8, Rd w w.heap.size A l → Rd w' w'.heap.size A l) : SE w' w'.heap.size v p := by
  obtain ⟨A, c, e, h1, h2, h3⟩ := h
  exact ⟨A, c, e, h1, h2, hk A _ h3⟩
set_option maxRecDepth 100000 in
theorem SEs.keep {w w' : World} {us : List Value} {l : List (List UInt8)} (h : SEs w us l) (hk : ∀ A : Option Addr, ∀ l : List UInt8, Rd w w.heap.size A l → Rd w' w'.heap.size A l) : SEs w' us l := ⟨h.1, fun j h1 h2 => (h.2 j h1 h2).keep hk⟩
set_option maxRecDepth 100000 in
theorem SEs.go {w w' : World} {us : List Value} {l : List (List UInt8)} (h : SEs w us l) (hb : Below w.heap.size w w') : SEs w' us l := h.keep fun _ _ hr => hr.go hb
set_option maxRecDepth 100000 in
theorem SEs.append {w : World} {us vs : List Value} {l m : List (List UInt8)} (h : SEs w us l) (k : SEs w vs m) : SEs w (us ++ vs) (l ++ m) := by
  refine ⟨by simp [h.1, k.1], fun j h1 h2 => ?_⟩
  by_cases hj : j < us.length
  · rw [List.getElem_append_left hj, List.getElem_append_left (by rw [← h.1]; exact hj)]
    exact h.2 j hj _
  · have e : j - us.length = j - l.length := by rw [h.1]
    have h3 : j - us.length < vs.length := by rw [List.length_append] at h1; omega
    rw [List.getElem_append_right (by omega), List.getElem_append_right (by rw [← h.1]; omega)]
    have h4 := k.2 (j - us.length) h3 (by rw [← k.1]; exact h3)
    simp only [e] at h4 ⊢
    exact h4
set_option maxRecDepth 100000 in
theorem SEs.one {w : World} {v : Value} {p : List UInt8} (h : SE w w.heap.size v p) : SEs w [v] [p] := ⟨rfl, fun j h1 h2 => by
  have : j = 0 := by simpa using h1
  subst this
  exact h⟩
set_option maxRecDepth 100000 in
theorem SEs.slices {w : World} {us : List Value} {l : List (List UInt8)} (h : SEs w us l) : ∀ u ∈ us, ∃ A n c, u = .slice A n c := fun u hu => by
  obtain ⟨j, hj, rfl⟩ := List.getElem_of_mem hu
  obtain ⟨A, c, e, -⟩ := h.2 j hj (by rw [← h.1]; exact hj)
  exact ⟨A, _, c, e⟩
/-- v is the call's own slice of rows (from block base on): its cells are us, and none of its block is a byte -/
def OwR (w : World) (base : Nat) (v : Value) (us : List Value) : Prop :=
  (v = .slice none 0 0 ∧ us = []) ∨ ∃ g cap cur, v = .slice (some ⟨g, 0, none⟩) us.length cap ∧ base ≤ g ∧ w.heap[g]? = some (.cells cur 23 (0, 0)) ∧ us.length ≤ cap ∧ cap ≤ maxLen ∧ cur.size = cap * 1 ∧ cur.toList.take (us.length * 1) = us ∧ (∀ x ∈ cur.toList, NoB x = true)
set_option maxRecDepth 100000 in
theorem OwR.nil {w : World} {base : Nat} : OwR w base (.slice none 0 0) [] := .inl ⟨rfl, rfl⟩
set_option maxRecDepth 100000 in
theorem OwR.made0 (w : World) {base : Nat} (hb : base ≤ w.heap.size) : OwR (w.alloc (.cells #[] 23)) base (.slice (some ⟨w.heap.size, 0, none⟩) 0 0) [] :=
  .inr ⟨w.heap.size, 0, #[], rfl, hb, heap_alloc_new w _, Nat.le_refl _, by simp [maxLen], rfl, rfl, by simp⟩
set_option maxRecDepth 100000 in
theorem OwR.owns {w : World} {base : Nat} {v : Value} {us : List Value} (h : OwR w base v us) : w.ownsRow base 23 1 v us.length us := by
  rcases h with ⟨rfl, rfl⟩ | ⟨g, cap, cur, rfl, h1, h2, h3, h4, h5, h6, -⟩
  · exact World.ownsRow_nil _ _ _ _
  · exact ⟨by simp, .inr ⟨g, cap, cur, rfl, h1, h2, h3, h4, h5, h6⟩⟩
set_option maxRecDepth 100000 in
theorem OwR.alloc {w : World} {base : Nat} {v : Value} {us : List Value} (h : OwR w base v us) (o : Obj) : OwR (w.alloc o) base v us := by
  rcases h with h | ⟨g, cap, cur, h0, h1, h2, h3⟩
  · exact .inl h
  · exact .inr ⟨g, cap, cur, h0, h1, (heap_alloc_old w o (Array.getElem?_eq_some_iff.1 h2).1).trans h2, h3⟩
set_option maxRecDepth 100000 in
theorem OwR.call {w w' : World} {base : Nat} {v : Value} {us : List Value} (h : OwR w base v us) (hb : Below w.heap.size w w') : OwR w' base v us := by
  rcases h with h | ⟨g, cap, cur, h0, h1, h2, h3⟩
  · exact .inl h
  · exact .inr ⟨g, cap, cur, h0, h1, oldG h2 hb (Nat.le_refl _), h3⟩
set_option maxRecDepth 100000 in
theorem OwR.form {w : World} {base : Nat} {v : Value} {us : List Value} (h : OwR w base v us) : ∃ A c, v = .slice A us.length c ∧ us.length ≤ c ∧ c ≤ 9223372036854775807 := by
  rcases h with ⟨rfl, rfl⟩ | ⟨g, cap, cur, rfl, h1, h2, h3, h4, h5, h6, -⟩
  · exact ⟨none, 0, rfl, by simp, by omega⟩
  · exact ⟨_, cap, rfl, h3, by simpa [maxLen] using h4⟩
set_option maxRecDepth 100000 in
theorem OwR.below {w0 w w' : World} {base : Nat} {v : Value} {us : List Value} (h : OwR w base v us) (hb : Below base w0 w) (hg : w.grownBy w' v.ownBlock) (hB : base ≤ w.heap.size) : Below base w0 w' :=
  hb.grown hg hB (fun k hk => (World.ownsRow.lt h.owns k hk).1)
set_option maxRecDepth 100000 in
theorem Rd.grownR {w w' : World} {base : Nat} {A : Option Addr} {l : List UInt8} {v : Value} {us : List Value} (h : Rd w w.heap.size A l) (ho : OwR w base v us) (hg : w.grownBy w' v.ownBlock) : Rd w' w'.heap.size A l := by
  intro h0
  obtain ⟨b, o, rfl, hb, hc⟩ := h h0
  have hk : some b ≠ v.ownBlock := by
    rcases ho with ⟨rfl, _⟩ | ⟨g, cap, cur, rfl, h1, h2, h3, h4, h5, h6, h7⟩
    · simp [Value.ownBlock]
    · have := Rd.notF (w := w) (B := w.heap.size) (A := some ⟨b, o, none⟩) (l := l) (fun _ => ⟨b, o, rfl, hb, hc⟩) h2 h7 h0 ⟨b, o, none⟩ rfl
      simp only [Value.ownBlock]
      exact fun e => this (Option.some.inj e)
  have hblk := hg.block b hb hk
  have hsz := hg.size
  exact ⟨b, o, rfl, by omega, fun j hj => by rw [World.cell?_of_block (w := w) (a := ⟨b, o + j, none⟩) hblk]; exact hc j hj⟩
set_option maxRecDepth 100000 in
theorem infoR : (Try.prog.info? 23).map (fun i => (i.zero, i.size, i.bytes)) = some (some (.slice none 0 0), 1, 24) := by kernel_rfl
set_option maxRecDepth 100000 in
/-- what the call owns reads as rows -/
theorem OwR.mat {w : World} {base : Nat} {A : Option Addr} {n c : Nat} {us : List Value} {l : List (List UInt8)} (h : OwR w base (.slice A n c) us) (hf : SEs w us l) : Mat w w.heap.size A l := by
  intro h0
  rcases h with ⟨e, rfl⟩ | ⟨g, cap, cur, e, h1, h2, h3, h4, h5, h6, -⟩
  · exact absurd hf.1 (by simp; omega)
  · cases e
    refine ⟨g, 0, rfl, (Array.getElem?_eq_some_iff.1 h2).1, fun j hj => ?_⟩
    have hju : j < us.length := by rw [hf.1]; exact hj
    obtain ⟨A1, c1, e1, h7, h8, h9⟩ := hf.2 j hju hj
    have k : cur[j]? = us[j]? := by rw [← Array.getElem?_toList]; conv => rhs; rw [← h6]
                                    rw [List.getElem?_take, if_pos (by omega)]
    refine ⟨A1, c1, ?_, h7, h8, h9⟩
    rw [cell_of_row _ _ _ _ _ _ h2, Nat.zero_add, k, List.getElem?_eq_getElem hju, e1]
set_option maxRecDepth 100000 in
/-- rows that are read, as cells -/
theorem Mat.cells {w : World} {A : Option Addr} {l : List (List UInt8)} (h : Mat w w.heap.size A l) (h0 : 0 < l.length) : ∃ b o us, A = some ⟨b, o, none⟩ ∧ SEs w us l ∧ ∀ j u, us[j]? = some u → w.cell? ((⟨b, o, none⟩ : Addr).add j) = some u := by
  obtain ⟨b, o, rfl, hb, hc⟩ := h h0
  have hx : ∀ j : Fin l.length, ∃ u, w.cell? ⟨b, o + j.1, none⟩ = some u ∧ SE w w.heap.size u l[j.1] := fun j => by
    obtain ⟨A1, c1, e, h1, h2, h3⟩ := hc j.1 j.2
    exact ⟨_, e, A1, c1, rfl, h1, h2, h3⟩
  let f : Fin l.length → Value := fun j => (hx j).choose
  refine ⟨b, o, List.ofFn f, rfl, ⟨by simp, fun j h1 h2 => ?_⟩, fun j u hu => ?_⟩
  · rw [List.getElem_ofFn]
    exact (hx ⟨j, h2⟩).choose_spec.2
  · have hj : j < l.length := by
      have := (List.getElem?_eq_some_iff.1 hu).1
      simpa using this
    rw [List.getElem?_eq_getElem (by simpa using hj), List.getElem_ofFn] at hu
    rw [Addr.add_lit, ← Option.some.inj hu]
    exact (hx ⟨j, hj⟩).choose_spec.1

set_option maxRecDepth 100000 in
/-- append of rows -/
theorem run_appR (ty : TypeId) (w : World) (base : Nat) (v : Value) (us : List Value) (h : OwR w base v us) (ad : Addr) (m c : Nat) (news : List Value) (hm : news.length = m)
    (hnews : ∀ j u, news[j]? = some u → w.cell? (ad.add j) = some u) (hsl : ∀ u ∈ news, ∃ A n c, u = .slice A n c) (h0 : 0 < m) (hlen : us.length + m ≤ 1000000) (hbase : base ≤ w.heap.size) :
    ∃ v' w', (Builtin.append_ #[42, 42] ty #[v, .slice (some ad) m c]).run Try.prog w = .ok v' w' ∧ OwR w' base v' (us ++ news) ∧ w.grownBy w' v.ownBlock := by
  subst hm
  obtain ⟨i0, hi, hz0, hz1, hz2⟩ := info_parts infoR
  have hone : ∀ u ∈ news, u.oneCell' = true := fun u hu => by
    obtain ⟨A, n, c, rfl⟩ := hsl u hu
    rfl
  have hnob : ∀ u ∈ news, NoB u = true := fun u hu => by
    obtain ⟨A, n, c, rfl⟩ := hsl u hu
    rfl
  have hzb : ∀ q, ∀ u ∈ (Builtin.zeroCells (Value.slice none 0 0).cells q).toList, NoB u = true := by
    intro q u hu
    simp [Builtin.zeroCells, Value.cells] at hu
    obtain ⟨j, hj, rfl⟩ := hu
    simp [Nat.mod_one, NoB]
  have hlen2 : (us ++ news).length = us.length + news.length := by simp
  have grown : ∀ old, old < us.length + news.length → (∀ u ∈ us, NoB u = true) →
      OwR (w.drew.alloc (.cells (us.toArray ++ news.toArray ++ Builtin.zeroCells (Value.slice none 0 0).cells (grownCap w (us.length + news.length) old 23 - (us.length + news.length))) 23)) base
        (.slice (some ⟨w.heap.size, 0, none⟩) (us.length + news.length) (grownCap w (us.length + news.length) old 23)) (us ++ news) := by
    intro old ho hnb
    have hge := grownCap_ge w (us.length + news.length) old 23
    have hcm : grownCap w (us.length + news.length) old 23 ≤ maxLen := grownCap_le_maxLen w (us.length + news.length) old 23 (by unfold maxLen; omega)
    have hzc : (Value.slice none 0 0).cells.size = 1 := rfl
    refine .inr ⟨w.heap.size, _, _, by rw [hlen2], hbase, heap_alloc_new w.drew _, by rw [hlen2]; exact hge, hcm, ?_, ?_, ?_⟩
    · simp only [Array.size_append, List.size_toArray, size_zeroCells, hzc]
      omega
    · simp only [Array.toList_append]
      rw [Nat.mul_one]
      exact List.take_left
    · intro u hu
      simp only [Array.toList_append, List.mem_append] at hu
      rcases hu with (hu | hu) | hu
      · exact hnb u hu
      · exact hnob u hu
      · exact hzb _ u hu
  rcases h with ⟨rfl, rfl⟩ | ⟨g, cap, cur, rfl, hbg, hg, hnc, hcm, hcs, htake, hnb⟩
  · have hr := run_append_nil (P := Try.prog) w 42 ty 23 i0 (.slice none 0 0) Try.underlying42 hi hz0 ad news.length c news (by rw [hz1, Nat.mul_one]) hnews h0 (by omega) (by rw [hz2]; simp at hlen; omega)
    have hgr := grown 0 (by simpa using h0) (by simp)
    simp only [List.length_nil, Nat.zero_add, List.nil_append] at hgr ⊢
    refine ⟨_, _, hr, ?_, ⟨rfl, rfl, rfl, by simp, fun k hk _ => heap_alloc_old w.drew _ hk⟩⟩
    simpa using hgr
  · have hnbu : ∀ u ∈ us, NoB u = true := fun u hu => hnb u (by rw [← htake] at hu; exact List.mem_of_mem_take hu)
    by_cases hroom : us.length + news.length ≤ cap
    · have hr := run_append_room (P := Try.prog) w 42 ty 23 i0 Try.underlying42 hi g us.length cap cur hg ad news.length c news (by rw [hz1, Nat.mul_one]) hnews hone hroom (by rw [hz1, hcs]; omega)
      refine ⟨_, _, hr, .inr ⟨g, cap, _, by rw [hlen2], hbg, setRow_heap w g cur _ _ _ hg, by rw [hlen2]; exact hroom, hcm, ?_, ?_, ?_⟩, ⟨rfl, rfl, rfl, by simp, fun k _ hk => setRow_other w g k _ (fun e => hk (by simp [Value.ownBlock, e]))⟩⟩
      · simp only [List.size_toArray, List.length_append, List.length_take, List.length_drop, Array.length_toList]
        rw [hz1]
        omega
      · rw [hz1, htake, Nat.mul_one]
        exact List.take_left
      · intro u hu
        simp only [List.mem_append] at hu
        rcases hu with (hu | hu) | hu
        · exact hnb u (List.mem_of_mem_take hu)
        · exact hnob u hu
        · exact hnb u (List.mem_of_mem_drop hu)
    · have hx : w.ownsRow base 23 1 (.slice (some ⟨g, 0, none⟩) us.length cap) us.length us := ⟨by simp, .inr ⟨g, cap, cur, rfl, hbg, hg, hnc, hcm, hcs, htake⟩⟩
      have holds : ∀ j u, us[j]? = some u → w.cell? ((⟨g, 0, none⟩ : Addr).add j) = some u := hx.cells (g := g) rfl
      have hr := run_append_grow (P := Try.prog) w 42 ty 23 i0 (.slice none 0 0) Try.underlying42 hi hz0 ⟨g, 0, none⟩ us.length cap us (by rw [hz1, Nat.mul_one]) holds ad news.length c news (by rw [hz1, Nat.mul_one]) hnews (by omega) (by omega) (by rw [hz2]; exact growslice_fits (by omega) (by omega))
      exact ⟨_, _, hr, grown cap (by omega) hnbu, ⟨rfl, rfl, rfl, by simp, fun k hk _ => heap_alloc_old w.drew _ hk⟩⟩
set_option maxRecDepth 100000 in
theorem wpList_appR {ops : Array Oper} {rest : List Oper} {o : Oper} {a : Act} {Q : Exit → Act → World → Prop} (w : World) (hw : Region.wanted o (yielded ops a.tmps) = true) (s x : Operand)
    (ho : o.op = .call { callee := .builtin .append, args := #[s, x], argTypes := #[42, 42] })
    (base : Nat) (v : Value) (us : List Value) (hs : a.eval s = v) (h : OwR w base v us) (ad : Addr) (m c : Nat) (hx : a.eval x = .slice (some ad) m c) (news : List Value) (hm : news.length = m)
    (hnews : ∀ j u, news[j]? = some u → w.cell? (ad.add j) = some u) (hsl : ∀ u ∈ news, ∃ A n c, u = .slice A n c) (h0 : 0 < m) (hlen : us.length + m ≤ 1000000) (hbase : base ≤ w.heap.size)
    (hK : ∀ v' w', OwR w' base v' (us ++ news) → w.grownBy w' v.ownBlock → wpList Try.prog ops Q rest (a.put o.dst v') w') : wpList Try.prog ops Q (o :: rest) a w := by
  obtain ⟨v', w', hr, h2, h3⟩ := run_appR o.type w base v us h ad m c news hm hnews hsl h0 hlen hbase
  refine BigFrame.wpList_want hw fun _ hK' => ?_
  unfold Oper.wp execOp
  simp only [ho, resolve, invoke, builtin, Sem.run_bind, Sem.run_pure, Result.andThen_ok, List.map_toArray, List.map_cons, List.map_nil, hs, hx, hr]
  exact hK' _ _ (hK v' w' h2 h3)
end Go.Proofs.Ytplekllhnpljiaa
/- dig.Hex -/

namespace Go.Proofs.Ytplekllhnpljiaa
open Go.RowKit

def sgn (n : Nat) : UInt8 := if n < 10 then UInt8.ofNat (48 + n) else UInt8.ofNat (87 + n)
def hx (l : List UInt8) : List UInt8 := l.flatMap fun b => [sgn (b.toNat / 16), sgn (b.toNat % 16)]
set_option maxRecDepth 100000 in
theorem hx_length (l : List UInt8) : (hx l).length = 2 * l.length := by
  induction l with
  | nil => rfl
  | cons a l ih => simp only [hx, List.flatMap_cons, List.length_append, List.length_cons, List.length_nil] at ih ⊢; omega
set_option maxRecDepth 100000 in
theorem take_snoc (l : List UInt8) (k : Nat) (h : k < l.length) : l.take (k + 1) = l.take k ++ [l[k]] := by
  rw [List.take_succ_eq_append_getElem h]
set_option maxRecDepth 100000 in
theorem hx_snoc (l : List UInt8) (c : UInt8) : hx (l ++ [c]) = hx l ++ [sgn (c.toNat / 16), sgn (c.toNat % 16)] := by
  simp [hx]

set_option maxRecDepth 100000 in
theorem idx_signs (q : Int) (j : Nat) (hq : q = j) (h : j < 16) (W : World) : (Instr.index 9 (.string ⟨#[48, 49, 50, 51, 52, 53, 54, 55, 56, 57, 97, 98, 99, 100, 101, 102]⟩) (.int .u8 q)).run Try.prog W = .ok (.int .u8 ((sgn j).toNat : Int)) W := by
  subst hq
  match j, h with
  | 0, _ => rfl | 1, _ => rfl | 2, _ => rfl | 3, _ => rfl | 4, _ => rfl | 5, _ => rfl | 6, _ => rfl | 7, _ => rfl
  | 8, _ => rfl | 9, _ => rfl | 10, _ => rfl | 11, _ => rfl | 12, _ => rfl | 13, _ => rfl | 14, _ => rfl | 15, _ => rfl
  | j + 16, h => exact absurd h (by omega)
set_option maxRecDepth 100000 in
theorem idx_hi (b : UInt8) : ∀ W, (Instr.index 9 (.string ⟨#[48, 49, 50, 51, 52, 53, 54, 55, 56, 57, 97, 98, 99, 100, 101, 102]⟩) (.int .u8 ((b.toNat : Int) / 16))).run Try.prog W = .ok (.int .u8 ((sgn (b.toNat / 16)).toNat : Int)) W :=
  fun W => idx_signs _ (b.toNat / 16) (by omega) (by have := b.toNat_lt; omega) W
set_option maxRecDepth 100000 in
theorem idx_lo (b : UInt8) : ∀ W, (Instr.index 9 (.string ⟨#[48, 49, 50, 51, 52, 53, 54, 55, 56, 57, 97, 98, 99, 100, 101, 102]⟩) (.int .u8 ((b.toNat : Int) % 16))).run Try.prog W = .ok (.int .u8 ((sgn (b.toNat % 16)).toNat : Int)) W :=
  fun W => idx_signs _ (b.toNat % 16) (by omega) (by omega) W

end Go.Proofs.Ytplekllhnpljiaa
/- Small callees: figure, half, sign, worth, power. -/

namespace Go.Proofs.Ytplekllhnpljiaa
open Go.RowKit

set_option maxRecDepth 100000 in
theorem pow_pos' (n : Int) (j : Nat) (h1 : 1 ≤ n) : 1 ≤ n ^ j := by
  induction j with
  | zero => simp
  | succ j ih =>
    rw [Int.pow_succ]
    have := Int.mul_le_mul ih h1 (by omega) (by omega)
    omega

set_option maxRecDepth 100000 in
theorem pow_le_pow' (n : Int) (j k : Nat) (h1 : 1 ≤ n) (hjk : j ≤ k) : n ^ j ≤ n ^ k := by
  obtain ⟨d, rfl⟩ := Nat.exists_eq_add_of_le hjk
  rw [Int.pow_add]
  have a := pow_pos' n j h1
  have b := pow_pos' n d h1
  have := Int.mul_le_mul (Int.le_refl (n ^ j)) b (by omega) (by omega)
  omega

set_option maxRecDepth 100000 in
theorem pow_step (n p : Int) (j k : Nat) (h1 : 1 ≤ n) (hlt : j < k) (hp : Hid (p = n ^ j)) (h2 : Hid ((n ^ k : Int) ≤ 9223372036854775807)) : 0 ≤ p * n ∧ p * n ≤ 9223372036854775807 := by
  have e : p * n = n ^ (j + 1) := by rw [hp.out, Int.pow_succ]
  have a := pow_pos' n (j + 1) h1
  have b := pow_le_pow' n (j + 1) k h1 (by omega)
  have c := h2.out
  rw [e]
  omega

end Go.Proofs.Ytplekllhnpljiaa
/- Same, dig.Value -/

namespace Go.Proofs.Ytplekllhnpljiaa
open Go.RowKit

set_option maxRecDepth 100000 in
theorem same_any (A B : Option Addr) (la lb : List UInt8) (ca cb BA BB : Nat) (w : World) (ha : Rd w BA A la) (hb : Rd w BB B lb) :
    Calls Try.prog 28 #[.slice A la.length ca, .slice B lb.length cb] w fun e w' => e = .returned (.bool (decide (la = lb))) ∧ w = w' := by
  have h1 := run_str (P := Try.prog) ha ca _ _ _ Try.underlying23 Try.underlying5 Try.underlying9
  have h2 := run_str (P := Try.prog) hb cb _ _ _ Try.underlying23 Try.underlying5 Try.underlying9
  go_enter Try.func28, Try.ntmps28
  go_wp2
  go_ret
  refine ⟨?_, rfl⟩
  simp
  rw [Bool.eq_iff_iff]; simp

set_option maxRecDepth 100000 in
theorem same_sl (v1 v2 : Value) (la lb : List UInt8) (w : World) (ha : Sl w v1 la) (hb : Sl w v2 lb) :
    Calls Try.prog 28 #[v1, v2] w fun e w' => e = .returned (.bool (decide (la = lb))) ∧ w = w' := by
  obtain ⟨A, ca, rfl, _, _, h1⟩ := ha
  obtain ⟨B, cb, rfl, _, _, h2⟩ := hb
  exact same_any A B la lb ca cb _ _ w h1 h2

def isFig (c : UInt8) : Bool := decide (48 ≤ c.toNat) && decide (c.toNat ≤ 57)
def allFig (l : List UInt8) : Bool := l.all isFig
def val (l : List UInt8) : Nat := l.foldl (fun n c => 10 * n + (c.toNat - 48)) 0
set_option maxRecDepth 100000 in
theorem val_snoc (l : List UInt8) (c : UInt8) : val (l ++ [c]) = 10 * val l + (c.toNat - 48) := by simp [val]
set_option maxRecDepth 100000 in
theorem isFig_iff (c : UInt8) : isFig c = true ↔ 48 ≤ c.toNat ∧ c.toNat ≤ 57 := by simp [isFig]
set_option maxRecDepth 100000 in
theorem snoc_ind {α : Type} {motive : List α → Prop} (h0 : motive []) (h1 : ∀ l a, motive l → motive (l ++ [a])) (l : List α) : motive l := by
  have h : ∀ r : List α, motive r.reverse := by
    intro r
    induction r with
    | nil => exact h0
    | cons a r ih => rw [List.reverse_cons]; exact h1 _ _ ih
  have := h l.reverse
  rwa [List.reverse_reverse] at this
set_option maxRecDepth 100000 in
theorem val_lt (l : List UInt8) (h : allFig l = true) : val l < 10 ^ l.length := by
  induction l using snoc_ind with
  | h0 => simp [val]
  | h1 l a ih =>
    simp only [allFig, List.all_append, List.all_cons, List.all_nil, Bool.and_true, Bool.and_eq_true] at h
    have h2 := (isFig_iff a).1 h.2
    have h3 := ih h.1
    rw [val_snoc, List.length_append, List.length_cons, List.length_nil, Nat.pow_add]
    omega
def valR (l : List UInt8) : Nat × Nat := if 1 ≤ l.length ∧ l.length ≤ 18 ∧ allFig l = true then (val l, 0) else (0, 2)

set_option maxRecDepth 100000 in
theorem bytes_len (s : ByteArray) : s.data.toList.length = s.size := by rw [Array.length_toList]; rfl
set_option maxRecDepth 100000 in
theorem bytes_take (s : ByteArray) (k : Nat) (h : k < s.size) : s.data.toList.take (k + 1) = s.data.toList.take k ++ [s[k]] := by
  rw [List.take_succ_eq_append_getElem (by rw [bytes_len]; exact h)]; rfl

set_option maxRecDepth 100000 in
theorem all_snoc (l : List UInt8) (c : UInt8) : allFig (l ++ [c]) = (allFig l && isFig c) := by simp [allFig]
set_option maxRecDepth 100000 in
theorem all_not (l : List UInt8) (k : Nat) (h : k < l.length) (hn : isFig l[k] = false) : allFig l = false := by
  unfold allFig
  rw [List.all_eq_false]
  exact ⟨l[k], List.getElem_mem h, by simp [hn]⟩
set_option maxRecDepth 100000 in
theorem get_bytes (s : ByteArray) (k : Nat) (h : k < s.size) : s.data.toList[k]'(by rw [bytes_len]; exact h) = s[k] := rfl
set_option maxRecDepth 100000 in
/-- the rune that stands at a place where no figure stands is none -/
theorem rune_no (s : ByteArray) (k : Nat) (h : k < s.size) (hn : isFig s[k] = false) : ((Utf8.decode s k).1 : Int) < 48 ∨ 57 < ((Utf8.decode s k).1 : Int) := by
  by_cases ha : (s[k]'h).toNat < 128
  · rw [decode_ascii s k h ha]
    have : ¬ (48 ≤ s[k].toNat ∧ s[k].toNat ≤ 57) := by rw [← isFig_iff, hn]; simp
    simp only
    omega
  · have := (decode_high s k h (by omega)).1
    omega
set_option maxRecDepth 100000 in
theorem valR_ok (l : List UInt8) (h1 : 1 ≤ l.length) (h2 : l.length ≤ 18) (h : allFig l = true) : valR l = (val l, 0) := by rw [valR, if_pos ⟨h1, h2, h⟩]
set_option maxRecDepth 100000 in
theorem valR_no (l : List UInt8) (h : allFig l = false) : valR l = (0, 2) := by rw [valR, if_neg (by simp [h])]

end Go.Proofs.Ytplekllhnpljiaa
