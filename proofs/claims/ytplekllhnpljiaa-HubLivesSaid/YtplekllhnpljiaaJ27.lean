
/- Package hub: Right, Same. -/
import Derived.Test.YtplekllhnpljiaaJ26
namespace Go.Proofs.Ytplekllhnpljiaa
open Go.RowKit

set_option maxRecDepth 100000 in
set_option maxHeartbeats 4000000 in
theorem hRight0_any (x : Wh) (h : Hb) (W : World) (hf : FewB h) (hl : Hb64 h) (hr : HubR W x h) : Calls Try.prog 11 #[.agg (hubC x h)] W fun e W' => e = .returned (.bool (decide (RightHb h))) ∧ Below W.heap.size W W' := by
  obtain ⟨V, C, hC, hV, hb, hg⟩ := boxH1 W x h
  have HB := Lib.hid hb
  have HV := Lib.hid hV
  have HG := Lib.hid hg
  have HR := Lib.hid (hr.go hb)
  have HFB := Lib.hid hf
  have HL := Lib.hid hl
  rw [← hC]
  obtain ⟨D, hD⟩ : ∃ D, D = decide (RightHb h) := ⟨_, rfl⟩
  rw [← hD]
  have HDE := Lib.hid hD
  clear hg hb hC hV hr hD hf hl
  go_enter Try.func11, Try.ntmps11
  go_wp2
  rw [← HV.out]
  go_loopw [4] (fun i wr => ∃ k : Nat, k ≤ 4 ∧ i = .int .i64 k ∧ Hid (∀ i, i < k → OkC h i) ∧ Hid (BoxH wr W.heap.size x h) ∧ Hid (HubR wr x h) ∧ Hid (Below W.heap.size W wr)) (fun i _ => 4 - (intOf i).toNat)
  case atStart => exact ⟨0, Nat.zero_le _, rfl, Lib.hid (fun i hi => absurd hi (by omega)), HG, HR, HB⟩
  case round =>
    clear HG HR HB HV
    obtain ⟨k, hk, rfl, HK, HG, HR, HB⟩ := hrel
    by_cases hlt : k < 4
    · have hki : (k : Int) < 4 := by omega
      have hk0 : (0 : Int) ≤ (k : Int) := Int.natCast_nonneg _
      have x0 := HG.out.cell (hubC_buf x h hlt)
      have x1 := HG.out.cell (hubC_skip x h hlt)
      have x2 := HG.out.cell (hubC_bad x h hlt)
      unfold slH at x0
      go_wp2_with fail
      refine (fRight_any (x k).1 (h.fd k).buf (x k).2 (h.fd k).skip (h.fd k).bad wr (HFB.out k hlt) (HL.out.1 k hlt).1 (HR.out k hlt).2.2).mono ?_
      rintro e w1 ⟨rfl, hb1⟩
      have HB1 := Lib.hid (belG HB.out hb1 HB.out.size)
      have HG1 := Lib.hid (HG.out.old hb1 (Nat.le_refl _))
      have HR1 := Lib.hid (HR.out.go hb1)
      clear x0 x1 x2 hb1 HG HR HB
      have CSM := Lib.hid (fSame_any (x k).1 none (h.fd k).buf [] (x k).2 0 (h.fd k).skip (h.fd k).bad 0 0 w1 (HFB.out k hlt) (by decide) (HR1.out k hlt).2.2 Rd.nil)
      have z0 := HG1.out.cell (hubC_up x h hlt)
      have HOK := Lib.hid (show OkC h k ↔ (decide (RightFd ⟨(h.fd k).buf, (h.fd k).skip, (h.fd k).bad⟩) = true ∧ (h.up k = false → decide ((h.fd k).buf = [] ∧ (h.fd k).skip = 0 ∧ (h.fd k).bad = 0) = true)) from by
        rw [decide_eq_true_eq, decide_eq_true_eq, Fd.eq3]
        exact Iff.rfl)
      generalize decide (RightFd ⟨(h.fd k).buf, (h.fd k).skip, (h.fd k).bad⟩) = p at *
      generalize decide ((h.fd k).buf = [] ∧ (h.fd k).skip = 0 ∧ (h.fd k).bad = 0) = q at *
      generalize h.up k = u at *
      have HNO := Lib.hid (show ¬ OkC h k → RightHb h → False from fun h1 h2 => h1 (h2.1 k hlt))
      have HKS := Lib.hid (show OkC h k → ∀ i, i < k + 1 → OkC h i from fun hok i hi => by
        by_cases e : i = k
        · subst e; exact hok
        · exact HK.out i (by omega))
      clear HK
      cases p with
      | false =>
        obtain rfl : D = false := HDE.out.trans (decide_eq_false (HNO.out (fun hok => Bool.noConfusion (HOK.out.1 hok).1)))
        clear HOK HNO HKS CSM
        go_wp2
        go_ret
        exact ⟨rfl, HB1.out⟩
      | true =>
        cases u with
        | true =>
          have HKK := Lib.hid (HKS.out (HOK.out.2 ⟨rfl, fun e => Bool.noConfusion e⟩))
          clear HOK HNO HKS CSM
          go_wp2
          go_roundw
          case rel => exact ⟨k + 1, by omega, by go_num, HKK, HG1, HR1, HB1⟩
          case measure => simp [intOf]; omega
        | false =>
          have x0 := HG1.out.cell (hubC_buf x h hlt)
          have x1 := HG1.out.cell (hubC_skip x h hlt)
          have x2 := HG1.out.cell (hubC_bad x h hlt)
          unfold slH at x0
          cases q with
          | true =>
            have HKK := Lib.hid (HKS.out (HOK.out.2 ⟨rfl, fun _ => rfl⟩))
            clear HOK HNO HKS
            go_wp2_with fail
            refine CSM.out.mono ?_
            rintro e w2 ⟨rfl, hb2⟩
            have HB2 := Lib.hid (belG HB1.out hb2 HB1.out.size)
            have HG2 := Lib.hid (HG1.out.old hb2 (Nat.le_refl _))
            have HR2 := Lib.hid (HR1.out.go hb2)
            clear x0 x1 x2 z0 hb2 HG1 HR1 HB1 CSM
            go_wp2
            go_roundw
            case rel => exact ⟨k + 1, by omega, by go_num, HKK, HG2, HR2, HB2⟩
            case measure => simp [intOf]; omega
          | false =>
            obtain rfl : D = false := HDE.out.trans (decide_eq_false (HNO.out (fun hok => Bool.noConfusion ((HOK.out.1 hok).2 rfl))))
            clear HOK HNO HKS
            go_wp2_with fail
            refine CSM.out.mono ?_
            rintro e w2 ⟨rfl, hb2⟩
            have HB2 := Lib.hid (belG HB1.out hb2 HB1.out.size)
            have HG2 := Lib.hid (HG1.out.old hb2 (Nat.le_refl _))
            have HR2 := Lib.hid (HR1.out.go hb2)
            clear x0 x1 x2 z0 hb2 HG1 HR1 HB1 CSM
            go_wp2
            go_ret
            exact ⟨rfl, HB2.out⟩
    · have hki : ¬ (k : Int) < 4 := by omega
      have hk4 : k = 4 := by omega
      subst hk4
      have x0 := HG.out.cell (hubC_next x h)
      have CI := Lib.hid (fun w => hubIs_any h.next w)
      have HD : D = decide (0 ≤ h.next ∧ h.next < 4) := HDE.out.trans (by
        rw [Bool.eq_iff_iff, decide_eq_true_iff, decide_eq_true_iff]
        exact ⟨fun h1 => h1.2, fun h1 => ⟨HK.out, h1⟩⟩)
      rw [← HD] at CI
      clear HD HDE HK
      generalize h.next = nx at *
      go_wp2_with fail
      refine (CI.out _).mono ?_
      rintro e w2 ⟨rfl, rfl⟩
      go_wp2
      go_ret
      exact ⟨rfl, HB.out⟩
set_option maxRecDepth 100000 in
theorem same4 {a b : Hb} : SameHb a b ↔ (∀ i, i < 4 → a.fd i = b.fd i) ∧ (a.up 0 == b.up 0 && a.up 1 == b.up 1 && a.up 2 == b.up 2 && a.up 3 == b.up 3) = true ∧ (a.life 0 == b.life 0 && a.life 1 == b.life 1 && a.life 2 == b.life 2 && a.life 3 == b.life 3) = true ∧ a.next = b.next := by
  simp only [Bool.and_eq_true, beq_iff_eq]
  constructor
  · intro h
    exact ⟨fun i hi => (h.1 i hi).1, ⟨⟨⟨(h.1 0 (by decide)).2.1, (h.1 1 (by decide)).2.1⟩, (h.1 2 (by decide)).2.1⟩, (h.1 3 (by decide)).2.1⟩, ⟨⟨⟨(h.1 0 (by decide)).2.2, (h.1 1 (by decide)).2.2⟩, (h.1 2 (by decide)).2.2⟩, (h.1 3 (by decide)).2.2⟩, h.2⟩
  · rintro ⟨h1, ⟨⟨⟨u0, u1⟩, u2⟩, u3⟩, ⟨⟨⟨l0, l1⟩, l2⟩, l3⟩, h4⟩
    refine ⟨fun i hi => ⟨h1 i hi, ?_⟩, h4⟩
    rcases lt4 hi with rfl | rfl | rfl | rfl
    · exact ⟨u0, l0⟩
    · exact ⟨u1, l1⟩
    · exact ⟨u2, l2⟩
    · exact ⟨u3, l3⟩
set_option maxRecDepth 100000 in
set_option maxHeartbeats 4000000 in
theorem hSame0_any (x y : Wh) (h r : Hb) (W : World) (hf : FewB h) (hf2 : FewB r) (hr : HubR W x h) (hs : HubR W y r) : Calls Try.prog 12 #[.agg (hubC x h), .agg (hubC y r)] W fun e W' => e = .returned (.bool (decide (SameHb h r))) ∧ Below W.heap.size W W' := by
  obtain ⟨V, C, D, hC, hD, hV, hb, hg, hg2⟩ := boxH2 W x y h r
  have HB := Lib.hid hb
  have HV := Lib.hid hV
  have HG := Lib.hid hg
  have HJ := Lib.hid hg2
  have HR := Lib.hid (hr.go hb)
  have HS := Lib.hid (hs.go hb)
  have HF1 := Lib.hid hf
  have HF2 := Lib.hid hf2
  rw [← hC, ← hD]
  obtain ⟨E, hE⟩ : ∃ E, E = decide (SameHb h r) := ⟨_, rfl⟩
  rw [← hE]
  have HDE := Lib.hid hE
  clear hg hg2 hb hC hD hV hr hs hE hf hf2
  go_enter Try.func12, Try.ntmps12
  go_wp2
  rw [← HV.out]
  go_loopw [6] (fun i wr => ∃ k : Nat, k ≤ 4 ∧ i = .int .i64 k ∧ Hid (∀ i, i < k → h.fd i = r.fd i) ∧ Hid (BoxH wr W.heap.size x h) ∧ Hid (BoxH wr (W.heap.size + 1) y r) ∧ Hid (HubR wr x h) ∧ Hid (HubR wr y r) ∧ Hid (Below W.heap.size W wr)) (fun i _ => 4 - (intOf i).toNat)
  case atStart => exact ⟨0, Nat.zero_le _, rfl, Lib.hid (fun i hi => absurd hi (by omega)), HG, HJ, HR, HS, HB⟩
  case round =>
    clear HG HJ HR HS HB HV
    obtain ⟨k, hk, rfl, HK, HG, HJ, HR, HS, HB⟩ := hrel
    by_cases hlt : k < 4
    · have hki : (k : Int) < 4 := by omega
      have hk0 : (0 : Int) ≤ (k : Int) := Int.natCast_nonneg _
      have CS := Lib.hid (fun w (hb : Below wr.heap.size wr w) => fSame_any (x k).1 (y k).1 (h.fd k).buf (r.fd k).buf (x k).2 (y k).2 (h.fd k).skip (h.fd k).bad (r.fd k).skip (r.fd k).bad w (HF1.out k hlt) (HF2.out k hlt) ((HR.out k hlt).2.2.go hb) ((HS.out k hlt).2.2.go hb))
      have KEEP := Lib.hid (fun w' (hb : Below wr.heap.size wr w') => (show Below wr.heap.size wr w' ∧ w'.cell? ⟨W.heap.size, 4 + k * 3, none⟩ = some (slH x h k) ∧ w'.cell? ⟨W.heap.size, 4 + k * 3 + 1, none⟩ = some (.int .i64 (h.fd k).skip) ∧ w'.cell? ⟨W.heap.size, 4 + k * 3 + 2, none⟩ = some (.int .i64 (h.fd k).bad) ∧ w'.cell? ⟨W.heap.size + 1, 4 + k * 3, none⟩ = some (slH y r k) ∧ w'.cell? ⟨W.heap.size + 1, 4 + k * 3 + 1, none⟩ = some (.int .i64 (r.fd k).skip) ∧ w'.cell? ⟨W.heap.size + 1, 4 + k * 3 + 2, none⟩ = some (.int .i64 (r.fd k).bad) from
        ⟨hb, (HG.out.old hb (Nat.le_refl _)).cell (hubC_buf x h hlt), (HG.out.old hb (Nat.le_refl _)).cell (hubC_skip x h hlt), (HG.out.old hb (Nat.le_refl _)).cell (hubC_bad x h hlt), (HJ.out.old hb (Nat.le_refl _)).cell (hubC_buf y r hlt), (HJ.out.old hb (Nat.le_refl _)).cell (hubC_skip y r hlt), (HJ.out.old hb (Nat.le_refl _)).cell (hubC_bad y r hlt)⟩))
      unfold slH at KEEP
      have BB0 := Lib.hid ((Below.refl wr.heap.size wr).drew)
      have HOK := Lib.hid (show (h.fd k = r.fd k) ↔ decide ((h.fd k).buf = (r.fd k).buf ∧ (h.fd k).skip = (r.fd k).skip ∧ (h.fd k).bad = (r.fd k).bad) = true from by
        rw [decide_eq_true_eq]
        exact ⟨fun e => by rw [e]; exact ⟨rfl, rfl, rfl⟩, fun e => Fd.ext' e.1 e.2.1 e.2.2⟩)
      have HNO := Lib.hid (show SameHb h r → h.fd k = r.fd k from fun e => (e.1 k hlt).1)
      generalize decide ((h.fd k).buf = (r.fd k).buf ∧ (h.fd k).skip = (r.fd k).skip ∧ (h.fd k).bad = (r.fd k).bad) = p at *
      generalize (h.fd k).buf.length = n1 at *
      generalize (r.fd k).buf.length = n2 at *
      generalize (h.fd k).skip = s1 at *
      generalize (r.fd k).skip = s2 at *
      generalize (h.fd k).bad = b1 at *
      generalize (r.fd k).bad = b2 at *
      go_wp2_with fail
      go_region_held3 (fun w' => Below wr.heap.size wr w' ∧ w'.cell? ⟨W.heap.size, 4 + k * 3, none⟩ = some (.slice (x k).1 n1 (x k).2) ∧ w'.cell? ⟨W.heap.size, 4 + k * 3 + 1, none⟩ = some (.int .i64 s1) ∧ w'.cell? ⟨W.heap.size, 4 + k * 3 + 2, none⟩ = some (.int .i64 b1) ∧ w'.cell? ⟨W.heap.size + 1, 4 + k * 3, none⟩ = some (.slice (y k).1 n2 (y k).2) ∧ w'.cell? ⟨W.heap.size + 1, 4 + k * 3 + 1, none⟩ = some (.int .i64 s2) ∧ w'.cell? ⟨W.heap.size + 1, 4 + k * 3 + 2, none⟩ = some (.int .i64 b2))
        (first | with_reducible exact KEEP.out _ BB0.out | with_reducible exact KEEP.out _ BB1.out)
        (first
        | (go_at_call 31; (with_reducible refine (CS.out _ BB0.out).mono ?_); rintro e wz ⟨rfl, hb⟩; have BB1 := Lib.hid (belG BB0.out hb BB0.out.size); clear hb))
      have HGz := Lib.hid (HG.out.old BB1.out (Nat.le_refl _))
      have HJz := Lib.hid (HJ.out.old BB1.out (Nat.le_refl _))
      have HRz := Lib.hid (HR.out.go BB1.out)
      have HSz := Lib.hid (HS.out.go BB1.out)
      have HBz := Lib.hid (belG HB.out BB1.out HB.out.size)
      have HKS := Lib.hid (fun (a1 : h.fd k = r.fd k) => show ∀ i, i < k + 1 → h.fd i = r.fd i from fun i hi => by
        by_cases e : i = k
        · subst e; exact a1
        · exact HK.out i (by omega))
      clear BB0 BB1 KEEP CS HG HJ HR HS HB HK
      cases p with
      | false =>
        obtain rfl : E = false := HDE.out.trans (decide_eq_false (fun e => Bool.noConfusion (HOK.out.1 (HNO.out e))))
        clear HOK HNO HKS
        go_wp2
        go_ret
        exact ⟨rfl, HBz.out⟩
      | true =>
        have HKK := Lib.hid (HKS.out (HOK.out.2 rfl))
        clear HOK HNO HKS
        go_wp2
        go_roundw
        case rel => exact ⟨k + 1, by omega, by go_num, HKK, HGz, HJz, HRz, HSz, HBz⟩
        case measure => simp [intOf]; omega
    · have hki : ¬ (k : Int) < 4 := by omega
      have hk4 : k = 4 := by omega
      subst hk4
      have a0 := HG.out.cell (hubC_up x h (show 0 < 4 by decide))
      have a1 := HG.out.cell (hubC_up x h (show 1 < 4 by decide))
      have a2 := HG.out.cell (hubC_up x h (show 2 < 4 by decide))
      have a3 := HG.out.cell (hubC_up x h (show 3 < 4 by decide))
      have b0 := HJ.out.cell (hubC_up y r (show 0 < 4 by decide))
      have b1 := HJ.out.cell (hubC_up y r (show 1 < 4 by decide))
      have b2 := HJ.out.cell (hubC_up y r (show 2 < 4 by decide))
      have b3 := HJ.out.cell (hubC_up y r (show 3 < 4 by decide))
      have c0 := HG.out.cell (hubC_life x h (show 0 < 4 by decide))
      have c1 := HG.out.cell (hubC_life x h (show 1 < 4 by decide))
      have c2 := HG.out.cell (hubC_life x h (show 2 < 4 by decide))
      have c3 := HG.out.cell (hubC_life x h (show 3 < 4 by decide))
      have d0 := HJ.out.cell (hubC_life y r (show 0 < 4 by decide))
      have d1 := HJ.out.cell (hubC_life y r (show 1 < 4 by decide))
      have d2 := HJ.out.cell (hubC_life y r (show 2 < 4 by decide))
      have d3 := HJ.out.cell (hubC_life y r (show 3 < 4 by decide))
      simp only [Nat.add_zero, Nat.reduceAdd] at c0 c1 c2 c3 d0 d1 d2 d3
      have x0 := HG.out.cell (hubC_next x h)
      have x1 := HJ.out.cell (hubC_next y r)
      have HD := Lib.hid (show E = true ↔ (h.up 0 == r.up 0 && h.up 1 == r.up 1 && h.up 2 == r.up 2 && h.up 3 == r.up 3) = true ∧ (h.life 0 == r.life 0 && h.life 1 == r.life 1 && h.life 2 == r.life 2 && h.life 3 == r.life 3) = true ∧ h.next = r.next from by
        rw [HDE.out, decide_eq_true_iff]
        exact same4.trans ⟨fun h1 => h1.2, fun h1 => ⟨HK.out, h1⟩⟩)
      have hqu := fun w => run_eqlU w h.up r.up
      have hql := fun w => run_eqlL w h.life r.life
      generalize (h.up 0 == r.up 0 && h.up 1 == r.up 1 && h.up 2 == r.up 2 && h.up 3 == r.up 3) = U at *
      generalize (h.life 0 == r.life 0 && h.life 1 == r.life 1 && h.life 2 == r.life 2 && h.life 3 == r.life 3) = L at *
      generalize h.up 0 = u0 at *
      generalize h.up 1 = u1 at *
      generalize h.up 2 = u2 at *
      generalize h.up 3 = u3 at *
      generalize r.up 0 = v0 at *
      generalize r.up 1 = v1 at *
      generalize r.up 2 = v2 at *
      generalize r.up 3 = v3 at *
      generalize h.life 0 = l0 at *
      generalize h.life 1 = l1 at *
      generalize h.life 2 = l2 at *
      generalize h.life 3 = l3 at *
      generalize r.life 0 = m0 at *
      generalize r.life 1 = m1 at *
      generalize r.life 2 = m2 at *
      generalize r.life 3 = m3 at *
      generalize h.next = n1 at *
      generalize r.next = n2 at *
      clear HDE HK
      cases U with
      | false =>
        obtain rfl : E = false := by cases hE : E with
          | false => rfl
          | true => exact Bool.noConfusion (HD.out.1 hE).1
        clear HD
        go_wp2
        go_ret
        exact ⟨rfl, HB.out⟩
      | true =>
        cases L with
        | false =>
          obtain rfl : E = false := by cases hE : E with
            | false => rfl
            | true => exact Bool.noConfusion (HD.out.1 hE).2.1
          clear HD
          go_wp2
          go_ret
          exact ⟨rfl, HB.out⟩
        | true =>
          by_cases he : n1 = n2
          · obtain rfl : E = true := HD.out.2 ⟨rfl, rfl, he⟩
            subst he
            clear HD
            go_wp2
            go_ret
            exact ⟨by first | rfl | (simp; done), HB.out⟩
          · obtain rfl : E = false := by cases hE : E with
              | false => rfl
              | true => exact absurd (HD.out.1 hE).2.2 he
            clear HD
            go_wp2
            go_ret
            exact ⟨by first | rfl | (simp [he]; done), HB.out⟩
end Go.Proofs.Ytplekllhnpljiaa
/- Package hub: Raise, Cut, Push. -/

namespace Go.Proofs.Ytplekllhnpljiaa
open Go.RowKit

set_option maxRecDepth 100000 in
set_option maxHeartbeats 4000000 in
theorem hRaise0_any (x : Wh) (h : Hb) (c : Int) (W : World) (hr : HubR W x h) (hl : Hb64 h) : Calls Try.prog 18 #[.agg (hubC x h), .int .i64 c] W fun e W' => AnsHb W' e (raiseR h c).1 (raiseR h c).2 ∧ Below W.heap.size W W' := by
  obtain ⟨V, C, hC, hV, hb, hg, hg2⟩ := boxHZ W x h
  have HB := Lib.hid hb
  have HV := Lib.hid hV
  have HG := Lib.hid hg
  have HJ := Lib.hid hg2
  have HR := Lib.hid (hr.go hb)
  have HL := Lib.hid hl
  rw [← hC]
  obtain ⟨E, hE⟩ : ∃ E, E = raiseR h c := ⟨_, rfl⟩
  rw [← hE]
  have HDE := Lib.hid hE
  clear hg hg2 hb hC hV hr hE hl
  have CI := Lib.hid (fun w => hubIs_any c w)
  by_cases hc : 0 ≤ c ∧ c < 4
  case neg =>
    have hE1 : E = (h, 1) := by rw [HDE.out]; unfold raiseR; rw [if_neg hc]
    have HE := Lib.hid (show E.1 = h ∧ E.2 = 1 by rw [hE1]; exact ⟨rfl, rfl⟩)
    rw [decide_eq_false hc] at CI
    clear hE1 HDE hc
    go_enter Try.func18, Try.ntmps18
    go_upto_region 1 with (fail)
    rw [← HV.out]
    go_wp2_with fail
    refine (CI.out _).mono ?_
    rintro e w1 ⟨rfl, hw⟩
    obtain rfl := hw.symm
    go_wp2_with (first | (refine loadHb _ (.tmp 2) W.heap.size x h HG.out rfl rfl rfl ?_) | (refine storeHb _ (.tmp 4) (.tmp 9) (W.heap.size + 1) x h _ HJ.out rfl rfl rfl rfl rfl ?_))
    (try simp only [Exit.inBlock, Exit.then])
    refine bodyPost_ret (retHb rfl _ _ (W.heap.size + 1) x h _ rfl rfl (setRow_heap _ _ _ _ _ _ HJ.out)) rfl ?_
    rw [HE.out.1, HE.out.2]
    exact hub_end rfl HB.out HJ.out HR.out
  rw [decide_eq_true hc] at CI
  obtain ⟨k, rfl⟩ := Int.eq_ofNat_of_zero_le hc.1
  have hlt : k < 4 := by omega
  have i3 : (k : Int) < 4 := by omega
  have i0 : (0 : Int) ≤ (k : Int) := by omega
  have hE1 : E = (if h.up k = true then (h, 9) else (raiseH h k, 0)) := by rw [HDE.out]; unfold raiseR; rw [if_pos hc]; rfl
  have HE := Lib.hid hE1
  have HU := Lib.hid (hubC_up x h hlt)
  clear hE1 HDE hc
  obtain ⟨u, hu⟩ : ∃ u, u = h.up k := ⟨_, rfl⟩
  rw [← hu] at HE HU
  clear hu
  go_enter Try.func18, Try.ntmps18
  go_upto_region 1 with (fail)
  rw [← HV.out]
  have z0 := HG.out.cell HU.out
  go_wp2_with fail
  refine (CI.out _).mono ?_
  rintro e w1 ⟨rfl, hw⟩
  obtain rfl := hw.symm
  cases u with
  | true =>
    have HE2 := Lib.hid (show E.1 = h ∧ E.2 = 9 by rw [HE.out]; exact ⟨rfl, rfl⟩)
    clear HE
    go_wp2_with (first | (refine loadHb _ (.tmp 2) W.heap.size x h HG.out rfl rfl rfl ?_) | (refine storeHb _ (.tmp 4) (.tmp 14) (W.heap.size + 1) x h _ HJ.out rfl rfl rfl rfl rfl ?_))
    (try simp only [Exit.inBlock, Exit.then])
    refine bodyPost_ret (retHb rfl _ _ (W.heap.size + 1) x h _ rfl rfl (setRow_heap _ _ _ _ _ _ HJ.out)) rfl ?_
    rw [HE2.out.1, HE2.out.2]
    exact hub_end rfl HB.out HJ.out HR.out
  | false =>
    have HE2 := Lib.hid (show E.1 = raiseH h k ∧ E.2 = 0 by rw [HE.out]; exact ⟨rfl, rfl⟩)
    clear HE
    have HLF := Lib.hid (HL.out.1 k hlt).2.2
    have z2 := HG.out.cell (hubC_life _ _ hlt)
    have f0 := HG.out.thaw (16 + k)
    obtain ⟨lf, hlf⟩ : ∃ l, l = h.life k := ⟨_, rfl⟩
    have z1 : V.cell? ⟨W.heap.size, 16 + k, none⟩ = some (.int .i64 lf) := by rw [hlf]; exact z2
    have HLE := Lib.hid hlf
    clear z2 hlf
    go_upto_region 6 with (fail)
    obtain ⟨Y3, hY3⟩ : ∃ Y, Y = V.setCell ⟨W.heap.size, 16 + k, none⟩ (.int .i64 (wrap64 (lf + 1))) := ⟨_, rfl⟩
    rw [← hY3]
    have hG3 : BoxH Y3 W.heap.size x { h with life := upd h.life k (wrap64 (h.life k + 1)) } := by
      rw [hY3, HLE.out]
      exact HG.out.set (hubC_setLife _ _ hlt _)
    have hO3 : OnlyH V Y3 W.heap.size := by rw [hY3]; exact (OnlyH.refl V _).setCell _ _
    clear hY3 z1 f0 HLE z0
    have HGE := Lib.hid hG3
    have HJE := Lib.hid (hO3.box HJ.out (by omega))
    have HRE := Lib.hid ((hO3.hubR HG.out HR.out).of (h' := { h with life := upd h.life k (wrap64 (h.life k + 1)) }) rfl)
    have HBE := Lib.hid (show Below W.heap.size W Y3 from hO3.below HB.out (Nat.le_refl _))
    clear hG3 hO3
    have CT := Lib.hid (turned9_any x { h with life := upd h.life k (wrap64 (h.life k + 1)) } k true Y3 hlt)
    go_wp2_with (first | (refine loadHb _ (.tmp 2) W.heap.size _ _ HGE.out rfl rfl rfl ?_))
    refine CT.out.mono ?_
    rintro e w2 ⟨rfl, hb2⟩
    have HBF := Lib.hid (belG HBE.out hb2 HBE.out.size)
    have HJF := Lib.hid (HJE.out.old hb2 (Nat.le_refl _))
    have HRF := Lib.hid ((HRE.out.go hb2).upd (h' := raiseH h k) k (f := fd0) (A := none) (n := 0) (Nat.le_refl _) (by decide) Rd.nil rfl)
    clear hb2 HBE HJE HRE
    go_wp2_with (first | (refine storeHb _ (.tmp 4) (.tmp 24) (W.heap.size + 1) _ _ _ HJF.out rfl rfl rfl rfl rfl ?_))
    (try simp only [Exit.inBlock, Exit.then])
    refine bodyPost_ret (retHb rfl _ _ (W.heap.size + 1) (upd x k (none, 0)) (raiseH h k) _ rfl rfl (setRow_heap _ _ _ _ _ _ HJF.out)) rfl ?_
    rw [HE2.out.1, HE2.out.2]
    exact hub_end rfl HBF.out HJF.out HRF.out
set_option maxRecDepth 100000 in
set_option maxHeartbeats 4000000 in
theorem hCut0_any (x : Wh) (h : Hb) (c : Int) (W : World) (hr : HubR W x h) (hl : Hb64 h) : Calls Try.prog 20 #[.agg (hubC x h), .int .i64 c] W fun e W' => AnsHb W' e (cutR h c).1 (cutR h c).2 ∧ Below W.heap.size W W' := by
  obtain ⟨V, C, hC, hV, hb, hg, hg2⟩ := boxHZ W x h
  have HB := Lib.hid hb
  have HV := Lib.hid hV
  have HG := Lib.hid hg
  have HJ := Lib.hid hg2
  have HR := Lib.hid (hr.go hb)
  have HL := Lib.hid hl
  rw [← hC]
  obtain ⟨E, hE⟩ : ∃ E, E = cutR h c := ⟨_, rfl⟩
  rw [← hE]
  have HDE := Lib.hid hE
  clear hg hg2 hb hC hV hr hE hl
  have CI := Lib.hid (fun w => hubIs_any c w)
  by_cases hc : 0 ≤ c ∧ c < 4
  case neg =>
    have hE1 : E = (h, 1) := by rw [HDE.out]; unfold cutR; rw [if_neg hc]
    have HE := Lib.hid (show E.1 = h ∧ E.2 = 1 by rw [hE1]; exact ⟨rfl, rfl⟩)
    rw [decide_eq_false hc] at CI
    clear hE1 HDE hc
    go_enter Try.func20, Try.ntmps20
    go_upto_region 1 with (fail)
    rw [← HV.out]
    go_wp2_with fail
    refine (CI.out _).mono ?_
    rintro e w1 ⟨rfl, hw⟩
    obtain rfl := hw.symm
    go_wp2_with (first | (refine loadHb _ (.tmp 2) W.heap.size x h HG.out rfl rfl rfl ?_) | (refine storeHb _ (.tmp 4) (.tmp 9) (W.heap.size + 1) x h _ HJ.out rfl rfl rfl rfl rfl ?_))
    (try simp only [Exit.inBlock, Exit.then])
    refine bodyPost_ret (retHb rfl _ _ (W.heap.size + 1) x h _ rfl rfl (setRow_heap _ _ _ _ _ _ HJ.out)) rfl ?_
    rw [HE.out.1, HE.out.2]
    exact hub_end rfl HB.out HJ.out HR.out
  rw [decide_eq_true hc] at CI
  obtain ⟨k, rfl⟩ := Int.eq_ofNat_of_zero_le hc.1
  have hlt : k < 4 := by omega
  have i3 : (k : Int) < 4 := by omega
  have i0 : (0 : Int) ≤ (k : Int) := by omega
  have hE1 : E = (if h.up k = true then (cutH h k, 0) else (h, 9)) := by rw [HDE.out]; unfold cutR; rw [if_pos hc]; rfl
  have HE := Lib.hid hE1
  have HU := Lib.hid (hubC_up x h hlt)
  clear hE1 HDE hc
  obtain ⟨u, hu⟩ : ∃ u, u = h.up k := ⟨_, rfl⟩
  rw [← hu] at HE HU
  clear hu
  go_enter Try.func20, Try.ntmps20
  go_upto_region 1 with (fail)
  rw [← HV.out]
  have z0 := HG.out.cell HU.out
  go_wp2_with fail
  refine (CI.out _).mono ?_
  rintro e w1 ⟨rfl, hw⟩
  obtain rfl := hw.symm
  cases u with
  | false =>
    have HE2 := Lib.hid (show E.1 = h ∧ E.2 = 9 by rw [HE.out]; exact ⟨rfl, rfl⟩)
    clear HE
    go_wp2_with (first | (refine loadHb _ (.tmp 2) W.heap.size x h HG.out rfl rfl rfl ?_) | (refine storeHb _ (.tmp 4) (.tmp 15) (W.heap.size + 1) x h _ HJ.out rfl rfl rfl rfl rfl ?_))
    (try simp only [Exit.inBlock, Exit.then])
    refine bodyPost_ret (retHb rfl _ _ (W.heap.size + 1) x h _ rfl rfl (setRow_heap _ _ _ _ _ _ HJ.out)) rfl ?_
    rw [HE2.out.1, HE2.out.2]
    exact hub_end rfl HB.out HJ.out HR.out
  | true =>
    have HE2 := Lib.hid (show E.1 = cutH h k ∧ E.2 = 0 by rw [HE.out]; exact ⟨rfl, rfl⟩)
    clear HE
    have HGE := HG
    have HJE := HJ
    have HRE := HR
    have HBE := HB
    have CT := Lib.hid (turned9_any x h k false V hlt)
    go_wp2_with (first | (refine loadHb _ (.tmp 2) W.heap.size _ _ HGE.out rfl rfl rfl ?_))
    refine CT.out.mono ?_
    rintro e w2 ⟨rfl, hb2⟩
    have HBF := Lib.hid (belG HBE.out hb2 HBE.out.size)
    have HJF := Lib.hid (HJE.out.old hb2 (Nat.le_refl _))
    have HRF := Lib.hid ((HRE.out.go hb2).upd (h' := cutH h k) k (f := fd0) (A := none) (n := 0) (Nat.le_refl _) (by decide) Rd.nil rfl)
    clear hb2 HBE HJE HRE
    go_wp2_with (first | (refine storeHb _ (.tmp 4) (.tmp 18) (W.heap.size + 1) _ _ _ HJF.out rfl rfl rfl rfl rfl ?_))
    (try simp only [Exit.inBlock, Exit.then])
    refine bodyPost_ret (retHb rfl _ _ (W.heap.size + 1) (upd x k (none, 0)) (cutH h k) _ rfl rfl (setRow_heap _ _ _ _ _ _ HJF.out)) rfl ?_
    rw [HE2.out.1, HE2.out.2]
    exact hub_end rfl HBF.out HJF.out HRF.out
set_option maxRecDepth 100000 in
set_option maxHeartbeats 4000000 in
theorem hPush0_any (x : Wh) (h : Hb) (c : Int) (B : Option Addr) (v : List UInt8) (d : Nat) (W : World) (hR : RightHb h) (hl : Hb64 h) (hr : HubR W x h) (hv : v.length ≤ 50000) (hd : v.length ≤ d) (hdm : d ≤ 9223372036854775807) (hs : Rd W W.heap.size B v) :
    Calls Try.prog 22 #[.agg (hubC x h), .int .i64 c, .slice B v.length d] W fun e W' => AnsPu W' e (pushR h c v) ∧ Below W.heap.size W W' := by
  obtain ⟨V, C, hC, hV, hb, hg, hg2⟩ := boxHZ W x h
  have HB := Lib.hid hb
  have HV := Lib.hid hV
  have HG := Lib.hid hg
  have HJ := Lib.hid hg2
  have HR := Lib.hid (hr.go hb)
  have HS := Lib.hid (hs.go hb)
  have HRT := Lib.hid hR
  have HVL := Lib.hid hv
  have HVD := Lib.hid (And.intro hd hdm)
  have HL := Lib.hid hl
  rw [← hC]
  obtain ⟨E, hE⟩ : ∃ E, E = pushR h c v := ⟨_, rfl⟩
  rw [← hE]
  have HDE := Lib.hid hE
  have HSZ := Lib.hid (show V.heap.size = W.heap.size + 2 by rw [hV]; simp)
  clear hg hg2 hb hC hV hr hE hR hs hv hd hdm hl
  obtain ⟨n, hn⟩ : ∃ n, n = v.length := ⟨_, rfl⟩
  have HN := Lib.hid hn
  rw [← hn]
  clear hn
  have CI := Lib.hid (fun w => hubIs_any c w)
  by_cases hc : 0 ≤ c ∧ c < 4
  case neg =>
    have HE := Lib.hid (show E = (h, [], 1) by rw [HDE.out]; unfold pushR; rw [if_neg hc])
    rw [decide_eq_false hc] at CI
    clear HDE hc
    go_enter Try.func22, Try.ntmps22
    go_upto_region 1 with (fail)
    rw [← HV.out]
    go_wp2_with fail
    refine (CI.out _).mono ?_
    rintro e w1 ⟨rfl, hw⟩
    obtain rfl := hw.symm
    go_wp2_with (first | (refine loadHb _ (.tmp 3) W.heap.size x h HG.out rfl rfl rfl ?_) | (refine storeHb _ (.tmp 6) (.tmp 14) (W.heap.size + 1) x h _ HJ.out rfl rfl rfl rfl rfl ?_))
    (try simp only [Exit.inBlock, Exit.then])
    refine bodyPost_ret (retHb3 rfl _ _ (W.heap.size + 1) x h _ _ rfl rfl rfl (setRow_heap _ _ _ _ _ _ HJ.out)) rfl ?_
    rw [HE.out]
    exact hub_endP rfl HB.out HJ.out HR.out rfl (Nat.le_refl _) (by decide) mat_nil (fun _ _ _ h0 => absurd h0 (by simp))
  rw [decide_eq_true hc] at CI
  obtain ⟨k, rfl⟩ := Int.eq_ofNat_of_zero_le hc.1
  have hlt : k < 4 := by omega
  have i3 : (k : Int) < 4 := by omega
  have i0 : (0 : Int) ≤ (k : Int) := by omega
  have HE := Lib.hid (show E = (if h.up k = true then (pushH h k v, (pushF (h.fd k) v).2, 0) else (h, [], 11)) by rw [HDE.out]; unfold pushR; rw [if_pos hc]; rfl)
  have HU := Lib.hid (hubC_up x h hlt)
  clear HDE hc
  obtain ⟨u, hu⟩ : ∃ u, u = h.up k := ⟨_, rfl⟩
  rw [← hu] at HE HU
  clear hu
  go_enter Try.func22, Try.ntmps22
  go_upto_region 1 with (fail)
  rw [← HV.out]
  have z0 := HG.out.cell HU.out
  go_wp2_with fail
  refine (CI.out _).mono ?_
  rintro e w1 ⟨rfl, hw⟩
  obtain rfl := hw.symm
  cases u with
  | false =>
    have HE2 := Lib.hid (show E = (h, [], 11) by rw [HE.out]; rfl)
    clear HE
    go_wp2_with (first | (refine loadHb _ (.tmp 3) W.heap.size x h HG.out rfl rfl rfl ?_) | (refine storeHb _ (.tmp 6) (.tmp 20) (W.heap.size + 1) x h _ HJ.out rfl rfl rfl rfl rfl ?_))
    (try simp only [Exit.inBlock, Exit.then])
    refine bodyPost_ret (retHb3 rfl _ _ (W.heap.size + 1) x h _ _ rfl rfl rfl (setRow_heap _ _ _ _ _ _ HJ.out)) rfl ?_
    rw [HE2.out]
    exact hub_endP rfl HB.out HJ.out HR.out rfl (Nat.le_refl _) (by decide) mat_nil (fun _ _ _ h0 => absurd h0 (by simp))
  | true =>
    have HE2 := Lib.hid (show E = (pushH h k v, (pushF (h.fd k) v).2, 0) by rw [HE.out]; rfl)
    clear HE
    have CP := Lib.hid (show Calls Try.prog 35 #[.agg #[.slice (x k).1 (h.fd k).buf.length (x k).2, .int .i64 (h.fd k).skip, .int .i64 (h.fd k).bad], .slice B n d] V fun e W' => AnsPushN V.heap.size W' e (pushF (h.fd k) v).1 (pushF (h.fd k) v).2 ∧ Below V.heap.size V W' from by
      rw [HN.out]
      exact (fPushD_any (x k).1 (h.fd k).buf (x k).2 (h.fd k).skip (h.fd k).bad B v d V (HRT.out.1 k hlt).1 (HR.out k hlt).1 (HR.out k hlt).2.1 (HL.out.1 k hlt).2.1 (HR.out k hlt).2.2 HVL.out HVD.out.1 HVD.out.2 HS.out).mono fun _ _ hh => ⟨hh.1.ansN, hh.2⟩)
    unfold AnsPushN at CP
    have x0 := HG.out.cell (hubC_buf x h hlt)
    have x1 := HG.out.cell (hubC_skip x h hlt)
    have x2 := HG.out.cell (hubC_bad x h hlt)
    unfold slH at x0
    obtain ⟨X, hX⟩ : ∃ X, X = pushF (h.fd k) v := ⟨_, rfl⟩
    have HXE := Lib.hid hX
    rw [← hX] at CP HE2
    clear hX
    go_wp2_with fail
    refine CP.out.mono ?_
    rintro e w1 ⟨⟨A1, c1, A2, c2, rfl, q1, q2, q3, q4, q5, q6, q7⟩, hb1⟩
    obtain ⟨Y0, hY0⟩ : ∃ Y, Y = w1.alloc (.cells #[.slice A1 X.1.buf.length c1, .int .i64 X.1.skip, .int .i64 X.1.bad] 25) := ⟨_, rfl⟩
    have hal : Below w1.heap.size w1 Y0 := by rw [hY0]; exact (Below.refl _ _).alloc (Nat.le_refl _) _
    have hF : Y0.heap[w1.heap.size]? = some (.cells #[.slice A1 X.1.buf.length c1, .int .i64 X.1.skip, .int .i64 X.1.bad] 25 (0, 0)) := by rw [hY0]; exact heap_alloc_new w1 _
    have hbY : Below V.heap.size V Y0 := belG hb1 hal hb1.size
    have HBY := Lib.hid (belG HB.out hbY HB.out.size)
    have HGY := Lib.hid (HG.out.old hbY (Nat.le_refl _))
    have HJY := Lib.hid (HJ.out.old hbY (Nat.le_refl _))
    have HRY := Lib.hid (HR.out.go hbY)
    have HQ1 := Lib.hid q1
    have HQ2 := Lib.hid q2
    have HQ3 := Lib.hid (q3.go hal)
    have HQ4 := Lib.hid (And.intro q4 q5)
    have HQ6 := Lib.hid ((q6.below hal (Nat.le_refl _)).more hal.size)
    have HQ7 := Lib.hid q7
    have HFD := Lib.hid hF
    have HW1 := Lib.hid hb1.size
    clear hb1 q1 q2 q3 q4 q5 q6 q7 hal hF hbY x0 x1 x2 z0 CP HS HB HG HJ HR
    go_upto_region 6 with (fail)
    rw [← hY0]
    clear hY0
    obtain ⟨gf, hgf⟩ : ∃ g, g = w1.heap.size := ⟨_, rfl⟩
    rw [← hgf] at HFD ⊢
    have hne : gf ≠ W.heap.size := by have h1 := HW1.out; have h2 := HSZ.out; omega
    clear hgf
    obtain ⟨y0, y1, y2⟩ := cG3 HFD.out
    have f0 := HGY.out.thaw (4 + k * 3)
    have f1 := HGY.out.thaw (4 + k * 3 + 1)
    have f2 := HGY.out.thaw (4 + k * 3 + 2)
    have x0 := HGY.out.cell (hubC_buf x h hlt)
    have x1 := HGY.out.cell (hubC_skip x h hlt)
    have x2 := HGY.out.cell (hubC_bad x h hlt)
    unfold slH at x0
    go_upto_region 7 with (fail)
    obtain ⟨Y2, hY2⟩ : ∃ Y, Y = ((Y0.setCell ⟨W.heap.size, 4 + k * 3, none⟩ (.slice A1 X.1.buf.length c1)).setCell ⟨W.heap.size, 4 + k * 3 + 1, none⟩ (.int .i64 X.1.skip)).setCell ⟨W.heap.size, 4 + k * 3 + 2, none⟩ (.int .i64 X.1.bad) := ⟨_, rfl⟩
    have hG2 : BoxH Y2 W.heap.size (upd x k (A1, c1)) { h with fd := upd h.fd k X.1 } := by rw [hY2]; exact HGY.out.setFd hlt A1 c1 X.1
    have hO2 : OnlyH Y0 Y2 W.heap.size := by rw [hY2]; exact (((OnlyH.refl Y0 _).setCell _ _).setCell _ _).setCell _ _
    rw [← hY2]
    clear hY2 f0 f1 f2 x0 x1 x2 y0 y1 y2
    have HE3 := Lib.hid (show E = ({ h with fd := upd h.fd k X.1 }, X.2, 0) by rw [HE2.out, HXE.out]; rfl)
    have HGE := Lib.hid hG2
    have HJE := Lib.hid (hO2.box HJY.out (by omega))
    have HRE := Lib.hid ((hO2.hubR HGY.out HRY.out).upd (h' := { h with fd := upd h.fd k X.1 }) k (f := X.1) (A := A1) (n := c1) HQ1.out HQ2.out (HQ3.out.keepN HGY.out (noBH _ _) hO2.1 (Nat.le_of_eq hO2.2.1.symm)) rfl)
    have HBE := Lib.hid (hO2.below HBY.out (Nat.le_refl _))
    have HFR := Lib.hid (fun (b o : Nat) (e : A2 = some ⟨b, o, none⟩) (h0 : 0 < X.2.length) => show W.heap.size + 2 ≤ b from by
      obtain ⟨b', o', e', hb'⟩ := HQ7.out h0
      rw [e] at e'
      cases e'
      have := HSZ.out
      omega)
    have HME := Lib.hid (Mat.only hO2 HGY.out HQ6.out (fun b o e h0 => by have := HFR.out b o e h0; omega))
    clear hG2 hO2
    go_wp2_with (first | (refine loadHb _ (.tmp 3) W.heap.size _ _ HGE.out rfl rfl rfl ?_) | (refine storeHb _ (.tmp 6) (.tmp 34) (W.heap.size + 1) _ _ _ HJE.out rfl rfl rfl rfl rfl ?_))
    (try simp only [Exit.inBlock, Exit.then])
    refine bodyPost_ret (retHb3 rfl _ _ (W.heap.size + 1) (upd x k (A1, c1)) { h with fd := upd h.fd k X.1 } _ _ rfl rfl rfl (setRow_heap _ _ _ _ _ _ HJE.out)) rfl ?_
    rw [HE3.out]
    exact hub_endP rfl HBE.out HJE.out HRE.out rfl HQ4.out.1 HQ4.out.2 HME.out (fun b o e h0 => by have := HFR.out b o e h0; omega)
end Go.Proofs.Ytplekllhnpljiaa
