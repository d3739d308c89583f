
/- packed: how many bytes frames take; how often something was no frame. -/
import Derived.Test.YtcableacihkggaaJ23
import Derived.Test.YtcableacihkggaaJ11
namespace Go.Proofs.Ytcableacihkggaa
open Go.RowKit

set_option maxRecDepth 100000 in
theorem packN_next (ls : List (List UInt8)) (k : Nat) (h : k < ls.length) : packN (ls.take (k + 1)) = packN (ls.take k) + (ls[k].length + 2) := by
  rw [List.take_succ_eq_append_getElem h, packN_append]
  simp [packN]
set_option maxRecDepth 100000 in
theorem packN_take (ls : List (List UInt8)) (k : Nat) : packN (ls.take k) ≤ packN ls := by
  conv => rhs; rw [← List.take_append_drop k ls]
  rw [packN_append]
  omega
set_option maxRecDepth 100000 in
set_option maxHeartbeats 1000000 in
theorem packed_any (A : Option Addr) (ls : List (List UInt8)) (c : Nat) (w : World) (hl : ls.length ≤ 100000) (hp : packN ls ≤ 1000000000) (hr : Mat w w.heap.size A ls) :
    Calls Try.prog 21 #[.slice A ls.length c] w fun e w' => e = .returned (.int .i64 (packN ls : Nat)) ∧ w' = w := by
  obtain ⟨n, hn⟩ : ∃ n, n = ls.length := ⟨_, rfl⟩
  obtain ⟨P, hP⟩ : ∃ P : Nat → Nat, P = fun k => packN (ls.take k) := ⟨_, rfl⟩
  have HPN := Lib.hid (show ∀ k (h : k < ls.length), P (k + 1) = P k + (ls[k].length + 2) by rw [hP]; exact packN_next ls)
  have HPB := Lib.hid (show ∀ k, P k ≤ 1000000000 by rw [hP]; exact fun k => Nat.le_trans (packN_take ls k) hp)
  have HP0 := Lib.hid (show P 0 = 0 by rw [hP]; rfl)
  rw [show packN ls = P n by rw [hP, hn]; simp only [List.take_length]]
  have HR := Lib.hid hr
  have HN := Lib.hid hn
  rw [← hn] at hl ⊢
  clear hP hr hn hp
  go_enter Try.func21, Try.ntmps21
  go_wp2
  go_loop [3, 4] (fun s i => ∃ k : Nat, k ≤ n ∧ s = .int .i64 (P k : Nat) ∧ i = .int .i64 k) (fun _ i => n - (intOf i).toNat)
  case atStart => exact ⟨0, Nat.zero_le _, by rw [HP0.out]; rfl, rfl⟩
  case round =>
    obtain ⟨k, hk, rfl, rfl⟩ := hrel
    by_cases hlt : k < n
    · have hk1 : k < ls.length := by rw [← HN.out]; exact hlt
      obtain ⟨b1, o1, rfl, hb1, hrow⟩ := HR.out (by omega)
      obtain ⟨A1, c1, x0, -, -, -⟩ := hrow k hk1
      have HS := HPN.out k hk1
      have h1 := HPB.out k
      have h2 := HPB.out (k + 1)
      have hki : (k : Int) < (n : Int) := by omega
      have hk0 : (0 : Int) ≤ (k : Int) := Int.natCast_nonneg _
      generalize ls[k].length = m at *
      obtain ⟨p, hp⟩ : ∃ p, p = P k := ⟨_, rfl⟩
      rw [← hp] at h1 HS ⊢
      have h3 : m ≤ 1000000000 := by omega
      have HQ := Lib.hid (show (p : Int) + 2 + (m : Int) = (P (k + 1) : Nat) by rw [HS]; push_cast; omega)
      clear hrow HS hk1 hb1 h2 hp
      go_wp2
      go_round
      case rel => exact ⟨k + 1, by omega, by rw [HQ.out], by go_num⟩
      case measure => simp [intOf]; omega
    · have hki : ¬ (k : Int) < (n : Int) := by omega
      have hkn : k = n := by omega
      subst hkn
      go_wp2
      go_ret
      exact ⟨rfl, rfl⟩
set_option maxRecDepth 100000 in
theorem incN_eq : ∀ (k : Nat) (x : Int), -9223372036854775808 ≤ x ∧ x ≤ 9223372036854775807 → incN k x = wrap64 (x + k)
  | 0, x, h => by unfold incN wrap64; omega
  | k + 1, x, h => by
    unfold incN
    rw [incN_eq k (inc64 x) (by unfold inc64 wrap64; omega)]
    unfold inc64 wrap64
    omega
set_option maxRecDepth 100000 in
theorem incN_sub (k : Nat) (hk : k ≤ 100000) (x : Int) (h : -9223372036854775808 ≤ x ∧ x ≤ 9223372036854775807) : wrap64 (incN k x - x) = (k : Int) ∧ (incN k x = x ↔ k = 0) := by
  rw [incN_eq k x h]
  unfold wrap64
  omega
end Go.Proofs.Ytcableacihkggaa
/- append to bytes of the call's own: what was there reads as it did. -/

namespace Go.Proofs.Ytcableacihkggaa
open Go.RowKit

set_option maxRecDepth 100000 in
theorem run_appSK (ty : TypeId) (w : World) (base g n cap : Nat) (l news : List UInt8) (h : Ow w base (.slice (some ⟨g, 0, none⟩) n cap) l) (A : Option Addr) (c B : Nat) (hr : Rd w B A news) (h0 : 0 < news.length)
    (hlen : l.length + news.length ≤ 10000000) (hbase : base ≤ w.heap.size) :
    ∃ v' w', (Builtin.append_ #[22, 22] ty #[.slice (some ⟨g, 0, none⟩) n cap, .slice A news.length c]).run Try.prog w = .ok v' w' ∧ Ow w' base v' (l ++ news) ∧ w.grownBy w' (some g) ∧ Rd w' w'.heap.size (some ⟨g, 0, none⟩) l := by
  obtain ⟨i0, hi, hz0, hz1, hz2⟩ := info_parts info5
  obtain ⟨b, o, rfl, hb, hc⟩ := hr h0
  have hnews : ∀ j u, (cs news)[j]? = some u → w.cell? ((⟨b, o, none⟩ : Addr).add j) = some u := by
    intro j u hu
    have hj : j < news.length := by
      have := (List.getElem?_eq_some_iff.1 hu).1
      simpa [cs] using this
    rw [cs_get news j hj] at hu
    rw [Addr.add_lit, hc j hj]
    exact hu
  obtain ⟨-, bd1, bd2, bd3, bd4⟩ := h.bdG
  have hrl := h.rdG
  have hx := h
  obtain ⟨hcl, hh⟩ := h
  rcases hh with ⟨e, _⟩ | ⟨g', cap', cur, e, hbg, hg, hnc, hcm, hcs, htake⟩
  · cases e
  cases e
  have hlen2 : (l ++ news).length = l.length + news.length := by simp
  by_cases hroom : l.length + news.length ≤ cap
  · have hr2 := run_append_room (P := Try.prog) w 22 ty 5 i0 Try.underlying22 hi g l.length cap cur hg ⟨b, o, none⟩ news.length c (cs news) (by rw [hz1, cs_length, Nat.mul_one]) hnews (cs_one _) hroom (by rw [hz1, cs_length, hcs]; omega)
    have hgr : w.grownBy (w.setRow g (cur.toList.take (l.length * i0.size) ++ cs news ++ cur.toList.drop (l.length * i0.size + (cs news).length)).toArray) (some g) := ⟨rfl, rfl, rfl, by simp, fun k _ hk => setRow_other w g k _ (fun e => hk (by simp [e]))⟩
    have how : Ow (w.setRow g (cur.toList.take (l.length * i0.size) ++ cs news ++ cur.toList.drop (l.length * i0.size + (cs news).length)).toArray) base (.slice (some ⟨g, 0, none⟩) (l.length + news.length) cap) (l ++ news) := by
      refine ⟨by simp [cs], .inr ⟨g, cap, _, by rw [hlen2], hbg, setRow_heap w g cur _ _ _ hg, by rw [hlen2]; exact hroom, hcm, ?_, ?_⟩⟩
      · simp only [List.size_toArray, List.length_append, List.length_take, List.length_drop, Array.length_toList, cs_length]
        rw [hz1]
        omega
      · rw [hz1, htake, ← cs_append, hlen2, ← hlen2, Nat.mul_one, ← cs_length]
        exact List.take_left
    refine ⟨_, _, hr2, how, hgr, fun h1 => ?_⟩
    obtain ⟨b', o', e', hb', hc'⟩ := how.rdG (by rw [hlen2]; omega)
    cases e'
    refine ⟨g, 0, rfl, hb', fun j hj => ?_⟩
    rw [hc' j (by rw [hlen2]; omega), List.getElem_append_left hj]
  · have holds : ∀ j u, (cs l)[j]? = some u → w.cell? ((⟨g, 0, none⟩ : Addr).add j) = some u := World.ownsRow.cells hx (g := g) rfl
    have hr2 := run_append_grow (P := Try.prog) w 22 ty 5 i0 (.int .u8 0) Try.underlying22 hi hz0 ⟨g, 0, none⟩ l.length cap (cs l) (by rw [cs_length, hz1, Nat.mul_one]) holds ⟨b, o, none⟩ news.length c (cs news) (by rw [hz1, cs_length, Nat.mul_one]) hnews (by omega) (by omega) (by rw [hz2]; exact growslice_fits (by omega) (by omega))
    have hge := grownCap_ge w (l.length + news.length) cap 5
    have hcm2 : grownCap w (l.length + news.length) cap 5 ≤ maxLen := grownCap_le_maxLen w (l.length + news.length) cap 5 (by unfold maxLen; omega)
    have hzc : (Value.int .u8 0).cells.size = 1 := rfl
    refine ⟨_, _, hr2, ⟨by simp [cs], .inr ⟨w.heap.size, _, _, by rw [hlen2], hbase, heap_alloc_new w.drew _, by rw [hlen2]; exact hge, hcm2, ?_, ?_⟩⟩, ⟨rfl, rfl, rfl, by simp, fun k hk _ => heap_alloc_old w.drew _ hk⟩, ?_⟩
    · simp only [Array.size_append, List.size_toArray, size_zeroCells, hzc, cs_length]
      omega
    · simp only [Array.toList_append]
      rw [← cs_append, hlen2, ← hlen2, Nat.mul_one, ← cs_length]
      exact List.take_left
    · exact Rd.go (w := w.drew) hrl ((Below.refl w.drew.heap.size w.drew).alloc (Nat.le_refl _) _)
set_option maxRecDepth 100000 in
theorem wpList_appSK {ops : Array Oper} {rest : List Oper} {o : Oper} {a : Act} {Q : Exit → Act → World → Prop} (w : World) (hw : Region.wanted o (yielded ops a.tmps) = true) (s x : Operand)
    (ho : o.op = .call { callee := .builtin .append, args := #[s, x], argTypes := #[22, 22] })
    (base g n cap : Nat) (l news : List UInt8) (hs : a.eval s = .slice (some ⟨g, 0, none⟩) n cap) (h : Ow w base (.slice (some ⟨g, 0, none⟩) n cap) l) (A : Option Addr) (m c B : Nat) (hx : a.eval x = .slice A m c) (hm : m = news.length)
    (hr : Rd w B A news) (h0 : 0 < news.length) (hlen : l.length + news.length ≤ 10000000) (hbase : base ≤ w.heap.size)
    (hK : ∀ v' w', Ow w' base v' (l ++ news) → w.grownBy w' (some g) → Rd w' w'.heap.size (some ⟨g, 0, none⟩) l → wpList Try.prog ops Q rest (a.put o.dst v') w') : wpList Try.prog ops Q (o :: rest) a w := by
  subst hm
  obtain ⟨v', w', hr, h2, h3, h4⟩ := run_appSK o.type w base g n cap l news h A c B hr h0 hlen hbase
  refine BigFrame.wpList_want hw fun _ hK' => ?_
  unfold Oper.wp execOp
  simp only [ho, resolve, invoke, builtin, Sem.run_bind, Sem.run_pure, Result.andThen_ok, List.map_toArray, List.map_cons, List.map_nil, hs, hx, hr]
  exact hK' _ _ (hK v' w' h2 h3 h4)
end Go.Proofs.Ytcableacihkggaa
