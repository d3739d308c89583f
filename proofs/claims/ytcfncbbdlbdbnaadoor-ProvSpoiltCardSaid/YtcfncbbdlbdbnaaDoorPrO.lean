
/- The document's Same. -/
import Derived.Test.YtcfncbbdlbdbnaaDoorPrL
namespace Go.Proofs.YtcfncbbdlbdbnaaDoor
open Go.RowKit

set_option maxRecDepth 100000 in
set_option maxHeartbeats 4000000 in
theorem rsame_tab (i f : Bool) (A C : Option Addr) (l l2 : List Pr) (c d : Nat) (w : World) (h1 : l.length ≤ 1000) (h2 : l2.length ≤ 1000) (hT : Tab w w.heap.size A l) (hT2 : Tab w w.heap.size C l2) :
    Calls Tryd.prog 15 #[.agg #[.bool i, .slice A l.length c, .bool f], .agg #[.bool i, .slice C l2.length d, .bool f]] w fun e w' => e = .returned (.bool (decide (l = l2))) ∧ Below w.heap.size w w' := by
  obtain ⟨n, hn⟩ : ∃ n, n = l.length := ⟨_, rfl⟩
  obtain ⟨m, hm⟩ : ∃ m, m = l2.length := ⟨_, rfl⟩
  obtain ⟨R, hR⟩ : ∃ R, R = decide (l = l2) := ⟨_, rfl⟩
  have HR := Lib.hid hR
  rw [← hR, ← hn, ← hm]
  rw [← hn] at h1
  rw [← hm] at h2
  obtain ⟨V, hV⟩ : ∃ V, V = (w.alloc (.cells #[.bool i, .slice A n c, .bool f] 24)).alloc (.cells #[.bool i, .slice C m d, .bool f] 24) := ⟨_, rfl⟩
  obtain ⟨q1, q2, q3, q4⟩ := alloc2 w (.cells #[.bool i, .slice A n c, .bool f] 24) (.cells #[.bool i, .slice C m d, .bool f] 24)
  rw [← hV] at q1 q2 q3 q4
  have HV := Lib.hid hV
  have HB := Lib.hid q4
  have GP := Lib.hid (fun W (h : Below V.heap.size V W) => old_below q1 h (Nat.le_refl _))
  have GQ := Lib.hid (fun W (h : Below V.heap.size V W) => old_below q2 h (Nat.le_refl _))
  by_cases hnm : n = m
  · subst hnm
    have HT := Lib.hid ((hT.below q4 (Nat.le_refl _)).more q4.size)
    have HT2 := Lib.hid ((hT2.below q4 (Nat.le_refl _)).more q4.size)
    have HN := Lib.hid hn
    have HM := Lib.hid hm
    clear hT hT2 hn hm hR h2 hV q1 q2 q3 q4
    go_enter Tryd.func15, Tryd.ntmps15
    all_goals
      go_wp2
      rw [← HV.out]
      clear HV
      go_loopw [5] (fun v wr => ∃ j : Nat, j ≤ n ∧ v = .int .i64 j ∧ Hid (l.take j = l2.take j) ∧ Below V.heap.size V wr) (fun v _ => n - (intOf v).toNat)
      case atStart => exact ⟨0, by omega, rfl, Lib.hid (by simp), Below.refl _ _⟩
      case round =>
        obtain ⟨j, hj, rfl, HT0, hbel⟩ := hrel
        have HBr := Lib.hid hbel
        obtain ⟨e0, e1, e2⟩ := cells3 (GP.out _ hbel)
        obtain ⟨e0', e1', e2'⟩ := cells3 (GQ.out _ hbel)
        clear hbel
        by_cases hlt : j < n
        · have hj1 : j < l.length := by have := HN.out; omega
          have hj2 : j < l2.length := by have := HM.out; omega
          obtain ⟨b1, o1, rfl, hb1, hrow1⟩ := HT.out (by omega)
          obtain ⟨b2, o2, rfl, hb2, hrow2⟩ := HT2.out (by omega)
          obtain ⟨A1, c1, A2, c2, f1, f2, -, -, -, -, r5, r6⟩ := hrow1 j hj1
          obtain ⟨A3, c3, A4, c4, g1, g2, -, -, -, -, s5, s6⟩ := hrow2 j hj2
          have k1 := (HBr.out.cell (p := ⟨b1, o1 + j * 2, none⟩) hb1).trans f1
          have k2 := (HBr.out.cell (p := ⟨b1, o1 + j * 2 + 1, none⟩) hb1).trans f2
          have k3 := (HBr.out.cell (p := ⟨b2, o2 + j * 2, none⟩) hb2).trans g1
          have k4 := (HBr.out.cell (p := ⟨b2, o2 + j * 2 + 1, none⟩) hb2).trans g2
          have CK := Lib.hid (fun q => same_any A1 A3 l[j].1 l2[j].1 c1 c3 _ _ (wr.drewN q) (r5.below (below_drewN HBr.out q) (Nat.le_refl _)) (s5.below (below_drewN HBr.out q) (Nat.le_refl _)))
          have CB := Lib.hid (fun q => same_any A2 A4 l[j].2 l2[j].2 c2 c4 _ _ (wr.drewN q) (r6.below (below_drewN HBr.out q) (Nat.le_refl _)) (s6.below (below_drewN HBr.out q) (Nat.le_refl _)))
          have HTN := Lib.hid (show l[j] = l2[j] → l.take (j + 1) = l2.take (j + 1) from fun h => by
            rw [List.take_succ_eq_append_getElem hj1, List.take_succ_eq_append_getElem hj2, HT0.out, h])
          have HNE := Lib.hid (show ¬ l[j] = l2[j] → R = false from fun hne => by
            rw [HR.out]
            refine decide_eq_false (fun h => hne ?_)
            subst h
            rfl)
          clear r5 r6 s5 s6 f1 f2 g1 g2 hrow1 hrow2
          obtain ⟨p, hp⟩ : ∃ p, p = l[j] := ⟨_, rfl⟩
          obtain ⟨q, hq⟩ : ∃ q, q = l2[j] := ⟨_, rfl⟩
          rw [← hp] at CK CB k1 k2 HTN HNE
          rw [← hq] at CK CB k3 k4 HTN HNE
          clear hp hq hj1 hj2
          obtain ⟨p1, p2⟩ := p
          obtain ⟨u1, u2⟩ := q
          simp only at CK CB k1 k2 k3 k4
          generalize p1.length = n1 at *
          generalize p2.length = n2 at *
          generalize u1.length = n3 at *
          generalize u2.length = n4 at *
          have hji : (j : Int) < (n : Int) := by omega
          have hj0 : (0 : Int) ≤ (j : Int) := Int.natCast_nonneg _
          by_cases hpk : p1 = u1
          · rw [decide_eq_true hpk] at CK
            by_cases hpb : p2 = u2
            · have HX := Lib.hid (HTN.out (by rw [hpk, hpb]))
              rw [decide_eq_true hpb] at CB
              clear hpk hpb HTN HNE
              go_wp2
              go_quiet ((first | (go_at_call 16; with_reducible exact Calls.quiet_of_same ((CK.out _).mono fun _ _ h => ⟨h.1, h.2.symm⟩)) | (go_at_call 16; with_reducible exact Calls.quiet_of_same ((CB.out _).mono fun _ _ h => ⟨h.1, h.2.symm⟩))))
              go_wp2
              go_roundw
              case rel => exact ⟨j + 1, by omega, by go_num, HX, below_drewN HBr.out _⟩
              case measure => simp [intOf]; omega
            · have HX := Lib.hid (HNE.out (by intro h; exact hpb (Prod.mk.inj h).2))
              rw [decide_eq_false hpb] at CB
              clear hpk hpb HTN HNE
              go_wp2
              go_quiet ((first | (go_at_call 16; with_reducible exact Calls.quiet_of_same ((CK.out _).mono fun _ _ h => ⟨h.1, h.2.symm⟩)) | (go_at_call 16; with_reducible exact Calls.quiet_of_same ((CB.out _).mono fun _ _ h => ⟨h.1, h.2.symm⟩))))
              go_wp2
              go_ret
              exact ⟨by rw [HX.out]; rfl, HB.out.trans ((below_drewN HBr.out _).mono HB.out.size)⟩
          · have HX := Lib.hid (HNE.out (by intro h; exact hpk (Prod.mk.inj h).1))
            rw [decide_eq_false hpk] at CK
            clear hpk HTN HNE CB
            go_wp2
            go_quiet ((go_at_call 16; with_reducible exact Calls.quiet_of_same ((CK.out _).mono fun _ _ h => ⟨h.1, h.2.symm⟩)))
            go_wp2
            go_ret
            exact ⟨by rw [HX.out]; rfl, HB.out.trans ((below_drewN HBr.out _).mono HB.out.size)⟩
        · have hjn : j = n := by omega
          have HX := Lib.hid (show R = true from by
            rw [HR.out]
            have h := HT0.out
            rw [hjn] at h
            conv at h => lhs; rw [HN.out]
            rw [HM.out, List.take_length, List.take_length] at h
            simp [h])
          have hji : ¬ (j : Int) < (n : Int) := by omega
          clear HT HT2 hjn
          go_wp2
          go_ret
          exact ⟨by rw [HX.out]; rfl, HB.out.trans (HBr.out.mono HB.out.size)⟩
  · have hRf : R = false := by
      rw [hR]
      exact decide_eq_false (fun h => hnm (by rw [hn, hm, h]))
    rw [hRf]
    have hni : ¬ (n : Int) = (m : Int) := by omega
    clear hT hT2 hn hm hR HR hRf GP GQ hV q1 q2 q3 q4
    go_enter Tryd.func15, Tryd.ntmps15
    all_goals
      go_wp2
      rw [← HV.out]
      go_ret
      exact ⟨rfl, HB.out⟩

set_option maxRecDepth 100000 in
set_option maxHeartbeats 2000000 in
theorem rsame_any (i f j g : Bool) (A C : Option Addr) (l l2 : List Pr) (c d : Nat) (w : World) (h1 : l.length ≤ 1000) (h2 : l2.length ≤ 1000) (hT : Tab w w.heap.size A l) (hT2 : Tab w w.heap.size C l2) :
    Calls Tryd.prog 15 #[.agg #[.bool i, .slice A l.length c, .bool f], .agg #[.bool j, .slice C l2.length d, .bool g]] w fun e w' => e = .returned (.bool (i == j && f == g && decide (l = l2))) ∧ Below w.heap.size w w' := by
  by_cases hij : i = j
  · by_cases hfg : f = g
    · subst hij hfg
      rw [show (i == i && f == f && decide (l = l2)) = decide (l = l2) by simp]
      exact rsame_tab i f A C l l2 c d w h1 h2 hT hT2
    · subst hij
      rw [show (i == i && f == g && decide (l = l2)) = false by simp [hfg]]
      generalize l.length = n at *
      generalize l2.length = m at *
      obtain ⟨-, -, -, q4⟩ := alloc2 w (.cells #[.bool i, .slice A n c, .bool f] 24) (.cells #[.bool i, .slice C m d, .bool g] 24)
      have HB := Lib.hid q4
      clear hT hT2 h1 h2 q4
      go_enter Tryd.func15, Tryd.ntmps15
      cases i <;> cases f <;> cases g
      all_goals first
        | exact absurd rfl hfg
        | (go_wp2; go_ret; exact ⟨rfl, HB.out⟩)
  · rw [show (i == j && f == g && decide (l = l2)) = false by simp [hij]]
    generalize l.length = n at *
    generalize l2.length = m at *
    obtain ⟨-, -, -, q4⟩ := alloc2 w (.cells #[.bool i, .slice A n c, .bool f] 24) (.cells #[.bool j, .slice C m d, .bool g] 24)
    have HB := Lib.hid q4
    clear hT hT2 h1 h2 q4
    go_enter Tryd.func15, Tryd.ntmps15
    cases i <;> cases j
    all_goals first
      | exact absurd rfl hij
      | (go_wp2; go_ret; exact ⟨rfl, HB.out⟩)
end Go.Proofs.YtcfncbbdlbdbnaaDoor
