
/- The document's Rows. -/
import Derived.Test.YtcfncbbdlbdbnaaDoorMat
import Derived.Test.YtcfncbbdlbdbnaaDoorTurned
import Derived.Deep.QuietTactic
import Derived.BigQuiet
namespace Go.Proofs.YtcfncbbdlbdbnaaDoor
open Go.RowKit

set_option maxRecDepth 100000 in
set_option maxHeartbeats 1000000 in
theorem rows2_any (P Q : Option Addr) (ps qs : List (List UInt8)) (c d : Nat) (w : World) (hp : Mat w w.heap.size P ps) (hq : Mat w w.heap.size Q qs) (hpl : ps.length ≤ 1000) (hql : qs.length ≤ 1000) :
    Calls Tryd.prog 23 #[.slice P ps.length c, .slice Q qs.length d] w fun e w' => e = .returned (.bool (decide (ps = qs))) ∧ Below w.heap.size w w' := by
  obtain ⟨n, hn⟩ : ∃ n, n = ps.length := ⟨_, rfl⟩
  obtain ⟨m, hm⟩ : ∃ m, m = qs.length := ⟨_, rfl⟩
  obtain ⟨R, hR⟩ : ∃ R, R = decide (ps = qs) := ⟨_, rfl⟩
  have HR := Lib.hid hR
  rw [← hR, ← hn, ← hm]
  rw [← hn] at hpl
  rw [← hm] at hql
  by_cases hnm : n = m
  · subst hnm
    have HP := Lib.hid hp
    have HQ := Lib.hid hq
    have HN := Lib.hid hn
    have HM := Lib.hid hm
    clear hp hq hn hm hR hql
    go_enter Tryd.func23, Tryd.ntmps23
    go_wp2
    go_loopw [5] (fun i wr => ∃ j : Nat, j ≤ n ∧ i = .int .i64 j ∧ Hid (ps.take j = qs.take j) ∧ Below w.heap.size w wr) (fun i _ => n - (intOf i).toNat)
    case atStart => exact ⟨0, by omega, rfl, Lib.hid (by simp), Below.refl _ _⟩
    case round =>
      obtain ⟨j, hj, rfl, HT, hbel⟩ := hrel
      have HB := Lib.hid hbel
      by_cases hlt : j < n
      · obtain ⟨b1, o1, rfl, hb1, hrow1⟩ := HP.out (by have := HN.out; omega)
        obtain ⟨b2, o2, rfl, hb2, hrow2⟩ := HQ.out (by have := HM.out; omega)
        have hj1 : j < ps.length := by have := HN.out; omega
        have hj2 : j < qs.length := by have := HM.out; omega
        obtain ⟨A1, c1, hc1, _, _, hr1⟩ := hrow1 j hj1
        obtain ⟨A2, c2, hc2, _, _, hr2⟩ := hrow2 j hj2
        have k1 := (HB.out.cell (p := ⟨b1, o1 + j, none⟩) hb1).trans hc1
        have k2 := (HB.out.cell (p := ⟨b2, o2 + j, none⟩) hb2).trans hc2
        have HTN := Lib.hid (show ps[j] = qs[j] → ps.take (j + 1) = qs.take (j + 1) from fun h => by
          rw [List.take_succ_eq_append_getElem hj1, List.take_succ_eq_append_getElem hj2, HT.out, h])
        have HNE := Lib.hid (show ¬ ps[j] = qs[j] → R = false from fun hne => by
          rw [HR.out]
          refine decide_eq_false (fun h => hne ?_)
          subst h
          rfl)
        have s1 : ∀ i, (convert 25 9 (.slice A1 ps[j].length c1)).run Tryd.prog (wr.drewN i) = .ok (.string ⟨ps[j].toArray⟩) (wr.drewN i) := fun i => run_str (P := Tryd.prog) (w := wr.drewN i) (B := w.heap.size) (by exact hr1.below (below_drewN HB.out i) (Nat.le_refl _)) c1 _ _ _ Tryd.underlying25 Tryd.underlying5 Tryd.underlying9
        have s2 : ∀ i, (convert 25 9 (.slice A2 qs[j].length c2)).run Tryd.prog (wr.drewN i) = .ok (.string ⟨qs[j].toArray⟩) (wr.drewN i) := fun i => run_str (P := Tryd.prog) (w := wr.drewN i) (B := w.heap.size) (by exact hr2.below (below_drewN HB.out i) (Nat.le_refl _)) c2 _ _ _ Tryd.underlying25 Tryd.underlying5 Tryd.underlying9
        generalize ps[j] = p at *
        generalize qs[j] = q at *
        have hji : (j : Int) < (n : Int) := by omega
        have hj0 : (0 : Int) ≤ (j : Int) := Int.natCast_nonneg _
        clear hrow1 hrow2 hc1 hc2 hr1 hr2 hj1 hj2
        by_cases hpq : p = q
        · have HTQ := Lib.hid (HTN.out hpq)
          clear HTN HNE
          subst hpq
          generalize (⟨p.toArray⟩ : ByteArray) = S at *
          go_wp2
          go_quiet (fail)
          go_wp2
          go_roundw
          case rel => exact ⟨j + 1, by omega, by go_num, HTQ, below_drewN HB.out _⟩
          case measure => simp [intOf]; omega
        · have hRF := HNE.out hpq
          have hss : ((⟨p.toArray⟩ : ByteArray).toList == (⟨q.toArray⟩ : ByteArray).toList) = false := by simpa using hpq
          have HRF := Lib.hid hRF
          clear hRF hpq
          generalize (⟨p.toArray⟩ : ByteArray) = S1 at *
          generalize (⟨q.toArray⟩ : ByteArray) = S2 at *
          go_wp2
          go_quiet (fail)
          go_wp2
          go_ret
          exact ⟨by rw [HRF.out]; rfl, below_drewN HB.out _⟩
      · have hjn : j = n := by omega
        have hRt : R = true := by
          rw [HR.out]
          have h := HT.out
          rw [hjn] at h
          conv at h => lhs; rw [HN.out]
          rw [HM.out, List.take_length, List.take_length] at h
          simp [h]
        have HRT := Lib.hid hRt
        clear hRt
        go_wp2
        go_ret
        exact ⟨by rw [HRT.out]; rfl, HB.out⟩
  · have hRf : R = false := by
      rw [hR]
      exact decide_eq_false (fun h => hnm (by rw [hn, hm, h]))
    rw [hRf]
    have hni : ¬ (n : Int) = (m : Int) := by omega
    clear hp hq hn hm hR HR hRf
    go_enter Tryd.func23, Tryd.ntmps23
    go_wp2
    go_ret
    exact ⟨rfl, Below.refl _ _⟩
end Go.Proofs.YtcfncbbdlbdbnaaDoor
