
/- slices.EqualFunc at entries, prov.Same. -/
import Derived.Test.YtcfncbbdlbdbnaaDoorPrH
namespace Go.Proofs.YtcfncbbdlbdbnaaDoor
open Go.RowKit

set_option maxRecDepth 100000 in
set_option maxHeartbeats 2000000 in
theorem equalFunc_any (A C : Option Addr) (l l2 : List Pr) (c d : Nat) (w : World) (h1 : l.length ≤ 1000) (h2 : l2.length ≤ 1000) (hT : Tab w w.heap.size A l) (hT2 : Tab w w.heap.size C l2) :
    Calls Tryd.prog 30 #[.slice A l.length c, .slice C l2.length d, .func (.func 31) #[] #[]] w fun e w' => e = .returned (.bool (decide (l = l2))) ∧ Below w.heap.size w w' := by
  have hf2 := fold2
  obtain ⟨us, hul, hve, hce⟩ := tab_ce hT
  obtain ⟨vs, hvl, hve2, hce2⟩ := tab_ce hT2
  obtain ⟨n, hn⟩ : ∃ n, n = l.length := ⟨_, rfl⟩
  obtain ⟨m, hm⟩ : ∃ m, m = l2.length := ⟨_, rfl⟩
  obtain ⟨R, hR⟩ : ∃ R, R = decide (l = l2) := ⟨_, rfl⟩
  have HR := Lib.hid hR
  rw [← hR, ← hn, ← hm]
  rw [← hn] at h1 hul
  rw [← hm] at h2 hvl
  by_cases hnm : n = m
  · subst hnm
    have HV1 := Lib.hid hve
    have HV2 := Lib.hid hve2
    have HC1 := Lib.hid hce
    have HC2 := Lib.hid hce2
    have HN := Lib.hid hn
    have HM := Lib.hid hm
    have HUL := Lib.hid hul
    have HVL := Lib.hid hvl
    clear hT hT2 hve hve2 hce hce2 hn hm hR h2 hul hvl
    go_enter Tryd.func30, Tryd.ntmps30
    go_wp2
    go_loopw [17] (fun i wr => ∃ j : Nat, j ≤ n ∧ i = .int .i64 j ∧ Hid (l.take j = l2.take j) ∧ Below w.heap.size w wr) (fun i _ => n - (intOf i).toNat)
    case atStart => exact ⟨0, by omega, rfl, Lib.hid (by simp), Below.refl _ _⟩
    case round =>
      obtain ⟨j, hj, rfl, HT, hbel⟩ := hrel
      have HB := Lib.hid hbel
      by_cases hlt : j < n
      · have hju : j < us.length := by have := HUL.out; omega
        have hjv : j < vs.length := by have := HVL.out; omega
        have hj1 : j < l.length := by have := HN.out; omega
        have hj2 : j < l2.length := by have := HM.out; omega
        obtain ⟨b1, o1, rfl, hb1, hrow1⟩ := HC1.out (by omega)
        obtain ⟨b2, o2, rfl, hb2, hrow2⟩ := HC2.out (by omega)
        obtain ⟨A1, c1, A2, c2, e1, q1, q2, q3, q4, q5, q6⟩ := HV1.out.2 j hju hj1
        obtain ⟨A3, c3, A4, c4, e2, r1, r2, r3, r4, r5, r6⟩ := HV2.out.2 j hjv hj2
        obtain ⟨f1, f2⟩ := hrow1 j hju
        obtain ⟨g1, g2⟩ := hrow2 j hjv
        rw [e1] at f1 f2
        rw [e2] at g1 g2
        have k1 := (HB.out.cell (p := ⟨b1, o1 + j * 2, none⟩) hb1).trans f1
        have k2 := (HB.out.cell (p := ⟨b1, o1 + j * 2 + 1, none⟩) hb1).trans f2
        have HK3 := Lib.hid (fun w' (h : Below w.heap.size w w') => (h.cell (p := ⟨b2, o2 + j * 2, none⟩) hb2).trans g1)
        have HK4 := Lib.hid (fun w' (h : Below w.heap.size w w') => (h.cell (p := ⟨b2, o2 + j * 2 + 1, none⟩) hb2).trans g2)
        have CA := Lib.hid (fun w' (h : Below w.heap.size w w') => alike_ent (.agg #[.slice A1 l[j].1.length c1, .slice A2 l[j].2.length c2]) (.agg #[.slice A3 l2[j].1.length c3, .slice A4 l2[j].2.length c4]) l[j] l2[j] w.heap.size w' h.size (Ent.below ⟨_, _, _, _, rfl, q1, q2, q3, q4, q5, q6⟩ h (Nat.le_refl _)) (Ent.below ⟨_, _, _, _, rfl, r1, r2, r3, r4, r5, r6⟩ h (Nat.le_refl _)))
        have HTN := Lib.hid (show l[j] = l2[j] → l.take (j + 1) = l2.take (j + 1) from fun h => by
          rw [List.take_succ_eq_append_getElem hj1, List.take_succ_eq_append_getElem hj2, HT.out, h])
        have HNE := Lib.hid (show ¬ l[j] = l2[j] → R = false from fun hne => by
          rw [HR.out]
          refine decide_eq_false (fun h => hne ?_)
          subst h
          rfl)
        clear q1 q2 q3 q4 q5 q6 r1 r2 r3 r4 r5 r6 e1 e2 f1 f2 g1 g2 hrow1 hrow2 hju hjv
        generalize l[j] = p at *
        generalize l2[j] = q at *
        generalize p.1.length = n1 at *
        generalize p.2.length = n2 at *
        generalize q.1.length = n3 at *
        generalize q.2.length = n4 at *
        have hji : (j : Int) < (n : Int) := by omega
        have hj0 : (0 : Int) ≤ (j : Int) := Int.natCast_nonneg _
        have hsz := HB.out.size
        have B1 := HB.out.alloc hsz (.cells #[.slice A1 n1 c1, .slice A2 n2 c2] 59)
        have B2 := B1.alloc B1.size (.cells #[.slice A3 n3 c3, .slice A4 n4 c4] 59)
        have k3 := HK3.out _ B1
        have k4 := HK4.out _ B1
        have k5 := HK3.out _ HB.out
        have k6 := HK4.out _ HB.out
        have HB2 := Lib.hid B2
        clear hj1 hj2 B1 B2 HK3 HK4
        by_cases hpq : p = q
        · have HTQ := Lib.hid (HTN.out hpq)
          rw [decide_eq_true hpq] at CA
          clear HTN HNE hpq
          go_wp2_with fail
          refine (CA.out _ HB2.out).mono ?_
          rintro e w3 ⟨rfl, hb3⟩
          have HB3 := Lib.hid (bel_call HB2.out hb3 HB2.out.size)
          clear hb3
          go_wp2_with fail
          go_roundw
          case rel => exact ⟨j + 1, by omega, by go_num, HTQ, HB3.out⟩
          case measure => simp [intOf]; omega
        · have HRF := Lib.hid (HNE.out hpq)
          rw [decide_eq_false hpq] at CA
          clear HTN HNE hpq
          go_wp2_with fail
          refine (CA.out _ HB2.out).mono ?_
          rintro e w3 ⟨rfl, hb3⟩
          have HB3 := Lib.hid (bel_call HB2.out hb3 HB2.out.size)
          clear hb3
          go_wp2_with fail
          go_ret
          exact ⟨by rw [HRF.out]; rfl, HB3.out⟩
      · have hjn : j = n := by omega
        have hRt : R = true := by
          rw [HR.out]
          have h := HT.out
          rw [hjn] at h
          conv at h => lhs; rw [HN.out]
          rw [HM.out, List.take_length, List.take_length] at h
          simp [h]
        have HRT := Lib.hid hRt
        clear hRt
        go_wp2
        go_ret
        exact ⟨by rw [HRT.out]; rfl, HB.out⟩
  · have hRf : R = false := by
      rw [hR]
      exact decide_eq_false (fun h => hnm (by rw [hn, hm, h]))
    rw [hRf]
    have hni : ¬ (n : Int) = (m : Int) := by omega
    clear hT hT2 hve hve2 hce hce2 hn hm hR HR hRf hul hvl
    go_enter Tryd.func30, Tryd.ntmps30
    go_wp2
    go_ret
    exact ⟨rfl, Below.refl _ _⟩

set_option maxRecDepth 100000 in
set_option maxHeartbeats 2000000 in
theorem psame_any (i f j g : Bool) (A C : Option Addr) (l l2 : List Pr) (c d : Nat) (w : World) (h1 : l.length ≤ 1000) (h2 : l2.length ≤ 1000) (hT : Tab w w.heap.size A l) (hT2 : Tab w w.heap.size C l2) :
    Calls Tryd.prog 19 #[.agg #[.bool i, .slice A l.length c, .bool f], .agg #[.bool j, .slice C l2.length d, .bool g]] w fun e w' => e = .returned (.bool (i == j && f == g && decide (l = l2))) ∧ Below w.heap.size w w' := by
  have CE := Lib.hid (fun W (h : Below w.heap.size w W) => equalFunc_any A C l l2 c d W h1 h2 ((hT.below h (Nat.le_refl _)).more h.size) ((hT2.below h (Nat.le_refl _)).more h.size))
  generalize decide (l = l2) = R at *
  generalize l.length = n at *
  generalize l2.length = m at *
  obtain ⟨-, -, q3, q4⟩ := alloc2 w (.cells #[.bool i, .slice A n c, .bool f] 24) (.cells #[.bool j, .slice C m d, .bool g] 24)
  have Q4 := Lib.hid q4
  clear hT hT2 h1 h2 q3 q4
  cases i <;> cases j <;> cases f <;> cases g
  all_goals
    go_enter Tryd.func19, Tryd.ntmps19
    go_wp2_with fail
    first
    | (go_ret; exact ⟨rfl, Q4.out⟩)
    | (refine (CE.out _ Q4.out).mono ?_
       rintro e w3 ⟨rfl, hb3⟩
       have HB3 := Lib.hid (bel_call Q4.out hb3 Q4.out.size)
       clear hb3
       go_wp2_with fail
       go_ret
       exact ⟨by simp, HB3.out⟩)
end Go.Proofs.YtcfncbbdlbdbnaaDoor
