
/- What is told tells label and parts; the document's Rows. -/
import Derived.Test.YtgabcbifefokkaaDoorMDerives
import Derived.Deep.QuietTactic
import Derived.BigQuiet
namespace Go.Proofs.YtgabcbifefokkaaDoor
open Go.RowKit

theorem ofNat_inj8 (a b : Nat) (ha : a < 256) (hb : b < 256) (h : UInt8.ofNat a = UInt8.ofNat b) : a = b := by
  have h2 := congrArg UInt8.toNat h
  rw [UInt8.toNat_ofNat', UInt8.toNat_ofNat'] at h2
  omega
theorem piece_inj (p q x y : List UInt8) (hp : p.length < 65536) (hq : q.length < 65536) (h : piece p ++ x = piece q ++ y) : p = q ∧ x = y := by
  unfold piece at h
  simp only [List.cons_append, List.cons.injEq] at h
  obtain ⟨h1, h2, h3⟩ := h
  have e1 := congrArg UInt8.toNat h1
  have e2 := congrArg UInt8.toNat h2
  rw [UInt8.toNat_ofNat', UInt8.toNat_ofNat'] at e1 e2
  have hl : p.length = q.length := by omega
  exact List.append_inj h3 hl
theorem pieces_inj : ∀ (ps qs : List (List UInt8)), (∀ p ∈ ps, p.length < 65536) → (∀ q ∈ qs, q.length < 65536) → ps.flatMap piece = qs.flatMap piece → ps = qs
  | [], [], _, _, _ => rfl
  | [], q :: qs, _, _, h => by simp [List.flatMap_cons, piece] at h
  | p :: ps, [], _, _, h => by simp [List.flatMap_cons, piece] at h
  | p :: ps, q :: qs, h1, h2, h => by
    rw [List.flatMap_cons, List.flatMap_cons] at h
    obtain ⟨e, h3⟩ := piece_inj p q _ _ (h1 p (by simp)) (h2 q (by simp)) h
    rw [e, pieces_inj ps qs (fun x hx => h1 x (by simp [hx])) (fun x hx => h2 x (by simp [hx])) h3]
theorem mem_tot (ps : List (List UInt8)) (p : List UInt8) (h : p ∈ ps) : p.length ≤ tot ps ps.length := by
  unfold tot
  rw [List.take_of_length_le (Nat.le_refl _)]
  induction ps with
  | nil => cases h
  | cons a ps ih =>
    rw [List.map_cons, List.sum_cons]
    rcases List.mem_cons.1 h with rfl | h2
    · omega
    · have := ih h2
      omega
theorem told_inj (a b : List UInt8) (ps qs : List (List UInt8)) (ha : a.length ≤ 255) (hb : b.length ≤ 255) (hp : tot ps ps.length ≤ 2000) (hq : tot qs qs.length ≤ 2000) (h : toldF a ps = toldF b qs) : a = b ∧ ps = qs := by
  unfold toldF toldN at h
  rw [List.take_of_length_le (Nat.le_refl _), List.take_of_length_le (Nat.le_refl _)] at h
  simp only [List.cons_append, List.cons.injEq] at h
  have hl := ofNat_inj8 _ _ (by omega) (by omega) h.1
  obtain ⟨e, h2⟩ := List.append_inj h.2 hl
  exact ⟨e, pieces_inj ps qs (fun p hp' => by have := mem_tot ps p hp'; omega) (fun q hq' => by have := mem_tot qs q hq'; omega) h2⟩
theorem str_inj (a b : ByteArray) (h : a.data.toList = b.data.toList) : a = b := by
  cases a; cases b
  simp at h
  rw [h]

set_option maxRecDepth 100000 in
set_option maxHeartbeats 1000000 in
theorem rows_any (P Q : Option Addr) (ps qs : List (List UInt8)) (c d : Nat) (w : World) (hp : Mat w w.heap.size P ps) (hq : Mat w w.heap.size Q qs) (hpl : ps.length ≤ 1000) (hql : qs.length ≤ 1000) :
    Calls Tryd.prog 23 #[.slice P ps.length c, .slice Q qs.length d] w fun e w' => e = .returned (.bool (decide (ps = qs))) ∧ Below w.heap.size w w' := by
  obtain ⟨n, hn⟩ : ∃ n, n = ps.length := ⟨_, rfl⟩
  obtain ⟨m, hm⟩ : ∃ m, m = qs.length := ⟨_, rfl⟩
  obtain ⟨R, hR⟩ : ∃ R, R = decide (ps = qs) := ⟨_, rfl⟩
  have HR := Lib.hid hR
  rw [← hR, ← hn, ← hm]
  rw [← hn] at hpl
  rw [← hm] at hql
  by_cases hnm : n = m
  · subst hnm
    have HP := Lib.hid hp
    have HQ := Lib.hid hq
    have HN := Lib.hid hn
    have HM := Lib.hid hm
    clear hp hq hn hm hR hql
    go_enter Tryd.func23, Tryd.ntmps23
    go_wp2
    go_loopw [5] (fun i wr => ∃ j : Nat, j ≤ n ∧ i = .int .i64 j ∧ Hid (ps.take j = qs.take j) ∧ Below w.heap.size w wr) (fun i _ => n - (intOf i).toNat)
    case atStart => exact ⟨0, by omega, rfl, Lib.hid (by simp), Below.refl _ _⟩
    case round =>
      obtain ⟨j, hj, rfl, HT, hbel⟩ := hrel
      have HB := Lib.hid hbel
      by_cases hlt : j < n
      · obtain ⟨b1, o1, rfl, hb1, hrow1⟩ := HP.out (by have := HN.out; omega)
        obtain ⟨b2, o2, rfl, hb2, hrow2⟩ := HQ.out (by have := HM.out; omega)
        have hj1 : j < ps.length := by have := HN.out; omega
        have hj2 : j < qs.length := by have := HM.out; omega
        obtain ⟨A1, c1, hc1, _, _, hr1⟩ := hrow1 j hj1
        obtain ⟨A2, c2, hc2, _, _, hr2⟩ := hrow2 j hj2
        have k1 := (HB.out.cell (p := ⟨b1, o1 + j, none⟩) hb1).trans hc1
        have k2 := (HB.out.cell (p := ⟨b2, o2 + j, none⟩) hb2).trans hc2
        have HTN := Lib.hid (show ps[j] = qs[j] → ps.take (j + 1) = qs.take (j + 1) from fun h => by
          rw [List.take_succ_eq_append_getElem hj1, List.take_succ_eq_append_getElem hj2, HT.out, h])
        have HNE := Lib.hid (show ¬ ps[j] = qs[j] → R = false from fun hne => by
          rw [HR.out]
          refine decide_eq_false (fun h => hne ?_)
          subst h
          rfl)
        have s1 : ∀ i, (convert 22 9 (.slice A1 ps[j].length c1)).run Tryd.prog (wr.drewN i) = .ok (.string ⟨ps[j].toArray⟩) (wr.drewN i) := fun i => run_str (P := Tryd.prog) (w := wr.drewN i) (B := w.heap.size) (by exact hr1.below (below_drewN HB.out i) (Nat.le_refl _)) c1 _ _ _ Tryd.underlying22 Tryd.underlying5 Tryd.underlying9
        have s2 : ∀ i, (convert 22 9 (.slice A2 qs[j].length c2)).run Tryd.prog (wr.drewN i) = .ok (.string ⟨qs[j].toArray⟩) (wr.drewN i) := fun i => run_str (P := Tryd.prog) (w := wr.drewN i) (B := w.heap.size) (by exact hr2.below (below_drewN HB.out i) (Nat.le_refl _)) c2 _ _ _ Tryd.underlying22 Tryd.underlying5 Tryd.underlying9
        generalize ps[j] = p at *
        generalize qs[j] = q at *
        have hji : (j : Int) < (n : Int) := by omega
        have hj0 : (0 : Int) ≤ (j : Int) := Int.natCast_nonneg _
        clear hrow1 hrow2 hc1 hc2 hr1 hr2 hj1 hj2
        by_cases hpq : p = q
        · have HTQ := Lib.hid (HTN.out hpq)
          clear HTN HNE
          subst hpq
          generalize (⟨p.toArray⟩ : ByteArray) = S at *
          go_wp2
          go_quiet (fail)
          go_wp2
          go_roundw
          case rel => exact ⟨j + 1, by omega, by go_num, HTQ, below_drewN HB.out _⟩
          case measure => simp [intOf]; omega
        · have hRF := HNE.out hpq
          have hss : ((⟨p.toArray⟩ : ByteArray).toList == (⟨q.toArray⟩ : ByteArray).toList) = false := by simpa using hpq
          have HRF := Lib.hid hRF
          clear hRF hpq
          generalize (⟨p.toArray⟩ : ByteArray) = S1 at *
          generalize (⟨q.toArray⟩ : ByteArray) = S2 at *
          go_wp2
          go_quiet (fail)
          go_wp2
          go_ret
          exact ⟨by rw [HRF.out]; rfl, below_drewN HB.out _⟩
      · have hjn : j = n := by omega
        have hRt : R = true := by
          rw [HR.out]
          have h := HT.out
          rw [hjn] at h
          conv at h => lhs; rw [HN.out]
          rw [HM.out, List.take_length, List.take_length] at h
          simp [h]
        have HRT := Lib.hid hRt
        clear hRt
        go_wp2
        go_ret
        exact ⟨by rw [HRT.out]; rfl, HB.out⟩
  · have hRf : R = false := by
      rw [hR]
      exact decide_eq_false (fun h => hnm (by rw [hn, hm, h]))
    rw [hRf]
    have hni : ¬ (n : Int) = (m : Int) := by omega
    clear hp hq hn hm hR HR hRf
    go_enter Tryd.func23, Tryd.ntmps23
    go_wp2
    go_ret
    exact ⟨rfl, Below.refl _ _⟩
end Go.Proofs.YtgabcbifefokkaaDoor
