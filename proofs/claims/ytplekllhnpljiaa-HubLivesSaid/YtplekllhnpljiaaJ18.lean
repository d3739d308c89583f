
/- The document's Rows. -/
import Derived.Test.YtplekllhnpljiaaJ02
import Derived.Test.YtplekllhnpljiaaJ17
import Derived.Deep.QuietTactic
import Derived.BigQuiet
import Derived.StillTailTactics
import Derived.BigRegion
namespace Go.Proofs.Ytplekllhnpljiaa
open Go.RowKit

set_option maxRecDepth 100000 in
set_option maxHeartbeats 1000000 in
theorem rows2_any (P Q : Option Addr) (ps qs : List (List UInt8)) (c d : Nat) (w : World) (hp : Mat w w.heap.size P ps) (hq : Mat w w.heap.size Q qs) (hpl : ps.length ≤ 100000) (hql : qs.length ≤ 100000) :
    Calls Try.prog 24 #[.slice P ps.length c, .slice Q qs.length d] w fun e w' => e = .returned (.bool (decide (ps = qs))) ∧ Below w.heap.size w w' := by
  obtain ⟨n, hn⟩ : ∃ n, n = ps.length := ⟨_, rfl⟩
  obtain ⟨m, hm⟩ : ∃ m, m = qs.length := ⟨_, rfl⟩
  obtain ⟨R, hR⟩ : ∃ R, R = decide (ps = qs) := ⟨_, rfl⟩
  have HR := Lib.hid hR
  rw [← hR, ← hn, ← hm]
  rw [← hn] at hpl
  rw [← hm] at hql
  by_cases hnm : n = m
  · subst hnm
    have HP := Lib.hid hp
    have HQ := Lib.hid hq
    have HN := Lib.hid hn
    have HM := Lib.hid hm
    clear hp hq hn hm hR hql
    go_enter Try.func24, Try.ntmps24
    go_wp2
    go_loopw [5] (fun i wr => ∃ j : Nat, j ≤ n ∧ i = .int .i64 j ∧ Hid (ps.take j = qs.take j) ∧ Below w.heap.size w wr) (fun i _ => n - (intOf i).toNat)
    case atStart => exact ⟨0, by omega, rfl, Lib.hid (by simp), Below.refl _ _⟩
    case round =>
      obtain ⟨j, hj, rfl, HT, hbel⟩ := hrel
      have HB := Lib.hid hbel
      by_cases hlt : j < n
      · obtain ⟨b1, o1, rfl, hb1, hrow1⟩ := HP.out (by have := HN.out; omega)
        obtain ⟨b2, o2, rfl, hb2, hrow2⟩ := HQ.out (by have := HM.out; omega)
        have hj1 : j < ps.length := by have := HN.out; omega
        have hj2 : j < qs.length := by have := HM.out; omega
        obtain ⟨A1, c1, hc1, _, _, hr1⟩ := hrow1 j hj1
        obtain ⟨A2, c2, hc2, _, _, hr2⟩ := hrow2 j hj2
        have k1 := (HB.out.cell (p := ⟨b1, o1 + j, none⟩) hb1).trans hc1
        have k2 := (HB.out.cell (p := ⟨b2, o2 + j, none⟩) hb2).trans hc2
        have HTN := Lib.hid (show ps[j] = qs[j] → ps.take (j + 1) = qs.take (j + 1) from fun h => by
          rw [List.take_succ_eq_append_getElem hj1, List.take_succ_eq_append_getElem hj2, HT.out, h])
        have HNE := Lib.hid (show ¬ ps[j] = qs[j] → R = false from fun hne => by
          rw [HR.out]
          refine decide_eq_false (fun h => hne ?_)
          subst h
          rfl)
        have s1 : ∀ i, (convert 23 9 (.slice A1 ps[j].length c1)).run Try.prog (wr.drewN i) = .ok (.string ⟨ps[j].toArray⟩) (wr.drewN i) := fun i => run_str (P := Try.prog) (w := wr.drewN i) (B := w.heap.size) (by exact hr1.below (below_drewN HB.out i) (Nat.le_refl _)) c1 _ _ _ Try.underlying23 Try.underlying5 Try.underlying9
        have s2 : ∀ i, (convert 23 9 (.slice A2 qs[j].length c2)).run Try.prog (wr.drewN i) = .ok (.string ⟨qs[j].toArray⟩) (wr.drewN i) := fun i => run_str (P := Try.prog) (w := wr.drewN i) (B := w.heap.size) (by exact hr2.below (below_drewN HB.out i) (Nat.le_refl _)) c2 _ _ _ Try.underlying23 Try.underlying5 Try.underlying9
        generalize ps[j] = p at *
        generalize qs[j] = q at *
        have hji : (j : Int) < (n : Int) := by omega
        have hj0 : (0 : Int) ≤ (j : Int) := Int.natCast_nonneg _
        clear hrow1 hrow2 hc1 hc2 hr1 hr2 hj1 hj2
        by_cases hpq : p = q
        · have HTQ := Lib.hid (HTN.out hpq)
          clear HTN HNE
          subst hpq
          generalize (⟨p.toArray⟩ : ByteArray) = S at *
          go_wp2
          go_quiet (fail)
          go_wp2
          go_roundw
          case rel => exact ⟨j + 1, by omega, by go_num, HTQ, below_drewN HB.out _⟩
          case measure => simp [intOf]; omega
        · have hRF := HNE.out hpq
          have hss : ((⟨p.toArray⟩ : ByteArray).toList == (⟨q.toArray⟩ : ByteArray).toList) = false := by simpa using hpq
          have HRF := Lib.hid hRF
          clear hRF hpq
          generalize (⟨p.toArray⟩ : ByteArray) = S1 at *
          generalize (⟨q.toArray⟩ : ByteArray) = S2 at *
          go_wp2
          go_quiet (fail)
          go_wp2
          go_ret
          exact ⟨by rw [HRF.out]; rfl, below_drewN HB.out _⟩
      · have hjn : j = n := by omega
        have hRt : R = true := by
          rw [HR.out]
          have h := HT.out
          rw [hjn] at h
          conv at h => lhs; rw [HN.out]
          rw [HM.out, List.take_length, List.take_length] at h
          simp [h]
        have HRT := Lib.hid hRt
        clear hRt
        go_wp2
        go_ret
        exact ⟨by rw [HRT.out]; rfl, HB.out⟩
  · have hRf : R = false := by
      rw [hR]
      exact decide_eq_false (fun h => hnm (by rw [hn, hm, h]))
    rw [hRf]
    have hni : ¬ (n : Int) = (m : Int) := by omega
    clear hp hq hn hm hR HR hRf
    go_enter Try.func24, Try.ntmps24
    go_wp2
    go_ret
    exact ⟨rfl, Below.refl _ _⟩
end Go.Proofs.Ytplekllhnpljiaa
/- sha.schedule: the words of a block. -/

namespace Go.Proofs.Ytplekllhnpljiaa
open Go.RowKit

set_option maxRecDepth 100000 in
theorem Rd.getD {w : World} {B : Nat} {A : Option Addr} {l : List UInt8} (h : Rd w B A l) (h0 : 0 < l.length) : ∃ b o, A = some ⟨b, o, none⟩ ∧ b < B ∧ ∀ j, j < l.length → w.cell? ⟨b, o + j, none⟩ = some (.int .u8 ((l.getD j 0).toNat : Int)) := by
  obtain ⟨b, o, e, hb, hc⟩ := h h0
  refine ⟨b, o, e, hb, fun j hj => ?_⟩
  rw [hc j hj, List.getD_eq_getElem?_getD, List.getElem?_eq_getElem hj]
  rfl

set_option maxRecDepth 100000 in
theorem zrows (w : World) (A B : Array Value) (t : TypeId) (n : Nat) (hA : A = Array.replicate n (.int .u32 0)) (hB : B = Array.replicate n (.int .u32 0)) :
    ((w.alloc (.cells A t)).alloc (.cells B t)).rowIs w.heap.size t n (fun _ => .int .u32 0) ∧ ((w.alloc (.cells A t)).alloc (.cells B t)).rowIs (w.heap.size + 1) t n (fun _ => .int .u32 0) ∧ Below w.heap.size w ((w.alloc (.cells A t)).alloc (.cells B t)) := by
  subst hA hB
  have h1 := World.rowIs_alloc w (Array.replicate n (.int .u32 0)) t (fun _ => .int .u32 0) (fun i hi => by simp at hi; simp [hi])
  have h2 := World.rowIs_alloc (w.alloc (.cells (Array.replicate n (.int .u32 0)) t)) (Array.replicate n (.int .u32 0)) t (fun _ => .int .u32 0) (fun i hi => by simp at hi; simp [hi])
  simp only [Array.size_replicate, World.size_alloc] at h1 h2
  exact ⟨h1.alloc _, h2, ((Below.refl _ _).alloc (Nat.le_refl _) _).alloc (by rw [World.size_alloc]; omega) _⟩
set_option maxRecDepth 100000 in
/-- a whole array is loaded out of a block of its own, and stored into one -/
theorem loadRow {ops : Array Oper} {rest : List Oper} {o : Oper} {a : Act} {Q : Exit → Act → World → Prop} (W : World) (t : TypeId) (n : Nat) (e : TypeId) (x : Operand) (g : Nat) (M : Array Value) (hg : W.heap[g]? = some (.cells M t (0, 0)))
    (hu : Try.prog.underlying t = some (.array n e)) (hi : (Try.prog.info? t).map (·.size) = some M.size) (hgd : o.guard = none) (ho : o.op = .load t x) (hx : a.eval x = .pointer (some ⟨g, 0, none⟩))
    (h : wpList Try.prog ops Q rest (a.put o.dst (.agg M)) W) : wpList Try.prog ops Q (o :: rest) a W :=
  wpList_load_row hgd t x ho g hx t M (0, 0) _ hg hu rfl hi h
set_option maxRecDepth 100000 in
theorem storeRow {ops : Array Oper} {rest : List Oper} {o : Oper} {a : Act} {Q : Exit → Act → World → Prop} (W : World) (t : TypeId) (x y : Operand) (g : Nat) (M old : Array Value) (hg : W.heap[g]? = some (.cells old t (0, 0)))
    (hi : (Try.prog.info? t).map (·.size) = some M.size) (hold : old.size = M.size) (h1 : M.all (·.oneCell') = true) (hgd : o.guard = none) (ho : o.op = .store t x y) (hx : a.eval x = .pointer (some ⟨g, 0, none⟩)) (hy : a.eval y = .agg M)
    (h : wpList Try.prog ops Q rest (a.put o.dst undef) (W.setRow g M)) : wpList Try.prog ops Q (o :: rest) a W :=
  wpList_store_row hgd t x y ho g M hx hy t old hg hi hold h1 h
set_option maxRecDepth 100000 in
theorem all_words {M : Array Value} {n : Nat} {f : Nat → UInt32} (hn : M.size = n) (h : ∀ i, i < n → M[i]? = some (wv (f i))) : M.all (·.oneCell') = true := by
  rw [Array.all_eq_true_iff_forall_mem]
  intro v hv
  obtain ⟨i, hi, rfl⟩ := Array.mem_iff_getElem.1 hv
  have := h i (by omega)
  rw [Array.getElem?_eq_getElem hi] at this
  rw [Option.some.inj this]
  rfl
set_option maxRecDepth 100000 in
theorem word4_nat (x0 x1 x2 x3 : UInt8) : bits .or .u32 (bits .or .u32 (bits .or .u32 ((x0.toNat : Int) * 16777216) ((x1.toNat : Int) * 65536)) ((x2.toNat : Int) * 256)) (x3.toNat : Int) = ((word4 x0 x1 x2 x3).toNat : Int) := by
  have b0 := x0.toNat_lt
  have b1 := x1.toNat_lt
  have b2 := x2.toNat_lt
  have e0 := w_shl x0.toUInt32 24 (by decide)
  have e1 := w_shl x1.toUInt32 16 (by decide)
  have e2 := w_shl x2.toUInt32 8 (by decide)
  simp only [UInt8.toNat_toUInt32] at e0 e1 e2
  have f0 : (x0.toNat : Int) * 16777216 = ((x0.toUInt32 <<< UInt32.ofNat 24).toNat : Int) := by rw [← e0]; omega
  have f1 : (x1.toNat : Int) * 65536 = ((x1.toUInt32 <<< UInt32.ofNat 16).toNat : Int) := by rw [← e1]; omega
  have f2 : (x2.toNat : Int) * 256 = ((x2.toUInt32 <<< UInt32.ofNat 8).toNat : Int) := by rw [← e2]; omega
  have f3 : (x3.toNat : Int) = (x3.toUInt32.toNat : Int) := by rw [UInt8.toNat_toUInt32]
  rw [f0, f1, f2, f3, w_or, w_or, w_or]
  rfl
set_option maxRecDepth 100000 in
theorem mAt_zero (l : List UInt8) (j : Nat) : mAt l 0 j = 0 := rfl

end Go.Proofs.Ytplekllhnpljiaa
