
/- WinOnce's walk. -/
import Derived.Test.YtdnfggjklblpnaaJ07
import Derived.Test.YtdnfggjklblpnaaJ06
namespace Go.Proofs.Ytdnfggjklblpnaa
open Go.RowKit

set_option maxRecDepth 100000 in
theorem once_ow0 {w : World} {base g : Nat} (h : w.heap[g]? = some (.cells #[] 3 (0, 0))) (hb : base ≤ g) : OwI w base (.slice (some ⟨g, 0, none⟩) 0 0) [] :=
  ⟨rfl, .inr ⟨g, 0, #[], rfl, hb, h, Nat.le_refl _, by simp [maxLen], rfl, rfl⟩⟩
set_option maxRecDepth 100000 in
theorem winT_ne : 25 ≠ 3 := by decide
set_option maxRecDepth 100000 in
/-- a window's box stays where numbers are appended -/
theorem OwI.keepW {w w' : World} {base g : Nat} {v : Value} {l : List Int} {a : Wn} (h : OwI w base v l) (k : BoxW w g a) (hg : w.grownBy w' v.ownBlock) : BoxW w' g a := by
  refine (hg.block g (Array.getElem?_eq_some_iff.1 k).1 ?_).trans k
  rcases h.2 with ⟨rfl, _⟩ | ⟨b, cap, cur, rfl, _, hb, _⟩
  · simp [Value.ownBlock]
  · simp only [Value.ownBlock]
    intro e
    obtain rfl := Option.some.inj e
    have h3 := k.symm.trans hb
    simp only [Option.some.injEq, Obj.cells.injEq] at h3
    exact winT_ne h3.2.1
set_option maxRecDepth 100000 in
theorem OwI.setRowW {w : World} {base g : Nat} {v : Value} {l : List Int} {a : Wn} (h : OwI w base v l) (k : BoxW w g a) (C : Array Value) : OwI (w.setRow g C) base v l := by
  refine ⟨h.1, ?_⟩
  rcases h.2 with h0 | ⟨b, cap, cur, e, hbg, hg, hr⟩
  · exact .inl h0
  · refine .inr ⟨b, cap, cur, e, hbg, (setRow_other w g b C (fun e2 => ?_)).trans hg, hr⟩
    subst e2
    have h3 := k.symm.trans hg
    simp only [Option.some.injEq, Obj.cells.injEq] at h3
    exact winT_ne h3.2.1
set_option maxRecDepth 100000 in
theorem BoxW.alloc {w : World} {g : Nat} {a : Wn} (k : BoxW w g a) (o : Obj) : BoxW (w.alloc o) g a := (heap_alloc_old w o (Array.getElem?_eq_some_iff.1 k).1).trans k
set_option maxRecDepth 100000 in
set_option maxHeartbeats 4000000 in
theorem winOnce_walk (A : Option Addr) (l : List Int) (c : Nat) (W : World) (_hlc : l.length ≤ c) (_hcm : c ≤ 9223372036854775807) (hz : I64s l) (hr : RdI W W.heap.size A l) :
    Calls Try.prog 5 #[.slice A l.length c] W fun e W' => e = .returned (.bool true) ∧ Below W.heap.size W W' := by
  have RA := Lib.hid hr
  have HZ := Lib.hid hz
  obtain ⟨n, hn⟩ : ∃ n, n = l.length := ⟨_, rfl⟩
  have HN := Lib.hid hn
  rw [← hn]
  clear _hlc _hcm hz hr hn
  by_cases h40 : 40 < n
  case pos =>
    have i40 : (40 : Int) < (n : Int) := by omega
    have HB := Lib.hid (Below.refl W.heap.size W)
    go_enter Try.func5, Try.ntmps5
    go_wp2_with fail
    refine (shown10_any _).mono ?_
    rintro e w1 ⟨rfl, hb⟩
    have nHB := Lib.hid (belG HB.out hb HB.out.size)
    clear hb
    clear HB 
    have HB := nHB
    clear nHB 
    go_wp2_with fail
    go_ret
    exact ⟨rfl, HB.out⟩
  have i40 : ¬ (40 : Int) < (n : Int) := by omega
  have HB := Lib.hid (Below.refl W.heap.size W)
  go_enter Try.func5, Try.ntmps5
  go_wp2_with fail
  refine (shown10_any _).mono ?_
  rintro e w1 ⟨rfl, hb⟩
  have nHB := Lib.hid (belG HB.out hb HB.out.size)
  clear hb
  clear HB 
  have HB := nHB
  clear nHB 
  have LB := Lib.hid HB.out.size
  obtain ⟨V1, hV1⟩ : ∃ V, V = w1.alloc (.cells (winC wn0) 25) := ⟨_, rfl⟩
  have ha := (Below.refl w1.heap.size w1).alloc (Nat.le_refl _) (.cells (winC wn0) 25)
  have hg := heap_alloc_new w1 (.cells (winC wn0) 25)
  have nHB := Lib.hid (HB.out.alloc HB.out.size (.cells (winC wn0) 25))
  rw [← hV1] at ha hg nHB
  obtain ⟨g4, hg4⟩ : ∃ g, g = w1.heap.size := ⟨_, rfl⟩
  rw [← hg4] at hg
  have HXG4 := Lib.hid hg4
  have G4 := Lib.hid hg
  have HV := Lib.hid hV1
  clear ha hg hV1 hg4
  clear HB 
  have HB := nHB
  clear nHB 
  have LEG4 := Lib.hid (show W.heap.size ≤ g4 from by rw [HXG4.out]; exact LB.out)
  clear LB
  go_upto_region 5 with (refine storeW _ (.tmp 4) (.tmp 19) _ wn0 _ (heap_alloc_new _ _) rfl rfl rfl rfl rfl ?_; rw [setRowG_fold])
  rw [← HV.out]
  (try rw [← HXG4.out])
  clear HV HXG4
  have LB := Lib.hid HB.out.size
  obtain ⟨V2, hV2⟩ : ∃ V, V = V1.alloc (.cells #[] 3) := ⟨_, rfl⟩
  have ha := (Below.refl V1.heap.size V1).alloc (Nat.le_refl _) (.cells #[] 3)
  have hg := heap_alloc_new V1 (.cells #[] 3)
  have nHB := Lib.hid (HB.out.alloc HB.out.size (.cells #[] 3))
  rw [← hV2] at ha hg nHB
  have nG4 := Lib.hid (oldG G4.out ha (Nat.le_refl _))
  obtain ⟨ge, hge⟩ : ∃ g, g = V1.heap.size := ⟨_, rfl⟩
  rw [← hge] at hg
  have HXGE := Lib.hid hge
  have GE := Lib.hid hg
  have HV := Lib.hid hV2
  clear ha hg hV2 hge
  clear HB G4
  have HB := nHB
  have G4 := nG4
  clear nHB nG4
  have LEGE := Lib.hid (show W.heap.size ≤ ge from by rw [HXGE.out]; exact LB.out)
  clear LB
  go_upto_region 6 with (fail)
  rw [← HV.out]
  (try rw [← HXGE.out])
  clear HV HXGE
  have HO := Lib.hid (once_ow0 GE.out LEGE.out)
  clear GE LEGE
  go_wp2_with fail
  go_loopw [5, 6, 7] (fun vt tv iv wr => ∃ (k : Nat) (T : List Int) (top : Int) (a : Wn), k ≤ n ∧ iv = .int .i64 k ∧ tv = .int .i64 top ∧ Hid (OnceI a T top) ∧ Hid (T.length ≤ k) ∧ Hid (OwI wr W.heap.size vt T) ∧ Hid (BoxW wr g4 a) ∧ Hid (Below W.heap.size W wr)) (fun _ _ i _ => n - (intOf i).toNat)
  case atStart => exact ⟨0, [], -1, wn0, Nat.zero_le _, rfl, rfl, Lib.hid once0, Lib.hid (Nat.le_refl _), HO, G4, HB⟩
  case round =>
    clear HO G4 HB
    obtain ⟨k, T, top, a, hk, rfl, rfl, HI, HTL, HO, G4, HB⟩ := hrel
    by_cases hlt : k < n
    case neg =>
      have hki : ¬ (k : Int) < (n : Int) := by omega
      have x0 := G4.out.cell (winC_top a)
      have htop : a.top = top + 1 := HI.out.2.2.1
      have hb0 := once_top HI.out
      obtain ⟨u, hu⟩ : ∃ u, u = top + 1 := ⟨_, rfl⟩
      have hw : IntKind.i64.wrap (top + 1) = u := by rw [hu]; exact IntWalk.i64_in _ (by unfold most at hb0; omega)
      have hw2 : wrap64 (top + 1) = u := by rw [hu]; unfold wrap64; unfold most at hb0; omega
      rw [htop, ← hu] at x0
      clear htop hu hb0
      go_wp2_with fail
      go_ret
      exact ⟨by first | rfl | (simp; done) | (simp; omega), HB.out⟩
    have hki : (k : Int) < (n : Int) := by omega
    have hk0 : (0 : Int) ≤ (k : Int) := Int.natCast_nonneg _
    have hk1 : k < l.length := by rw [← HN.out]; exact hlt
    obtain ⟨b1, o1, rfl, hb1, hc1⟩ := RA.out (by omega)
    have k1 := (HB.out.cell (p := ⟨b1, o1 + k, none⟩) hb1).trans (hc1 k hk1)
    have hmb := HZ.out _ (List.getElem_mem hk1)
    obtain ⟨m, hm⟩ : ∃ m, m = l[k] := ⟨_, rfl⟩
    rw [← hm] at k1 hmb
    obtain ⟨m1, m2⟩ := hmb
    clear hm hc1 hk1
    obtain ⟨B2, c2, rfl, hTc, hTm, hRT⟩ := HO.out.form
    have RT := Lib.hid hRT
    obtain ⟨q, hq⟩ : ∃ q, q = T.length := ⟨_, rfl⟩
    have HQ := Lib.hid hq
    rw [← hq]
    rw [← hq] at HO HTL
    clear hTc hTm hRT hq
    have hq40 : q ≤ 40 := by have := HTL.out; omega
    go_wp2_with fail
    go_loopw [9, 10] (fun hv jv wi => ∃ j : Nat, j ≤ q ∧ jv = .int .i64 j ∧ hv = .bool (decide (m ∈ T.take j)) ∧ wi = wr) (fun _ j _ => q - (intOf j).toNat)
    case atStart => exact ⟨0, Nat.zero_le _, rfl, by simp, rfl⟩
    case round =>
      obtain ⟨j, hj, rfl, rfl, hw⟩ := hrel
      obtain rfl := hw.symm
      by_cases hjq : j < q
      case pos =>
        have hji : (j : Int) < (q : Int) := by omega
        have hj0 : (0 : Int) ≤ (j : Int) := Int.natCast_nonneg _
        have hj1 : j < T.length := by rw [← HQ.out]; exact hjq
        have HD := Lib.hid (had_step T m hj1)
        obtain ⟨b2, o2, rfl, hb2, hc2⟩ := RT.out (by omega)
        have t1 := hc2 j hj1
        obtain ⟨y, hy⟩ : ∃ y, y = T[j] := ⟨_, rfl⟩
        rw [← hy] at t1 HD
        obtain ⟨r, hr⟩ : ∃ r, r = (y == m) := ⟨_, rfl⟩
        have hr2 : (y == m) = r := hr.symm
        rw [hr2] at HD
        generalize decide (m ∈ T.take j) = p at *
        clear hr hy hc2 hj1 k1
        cases p with
        | true =>
          go_wp2_with fail
          go_roundw
          case rel => exact ⟨j + 1, by omega, by go_num, by rw [← HD.out]; rfl, by first | rfl | trivial⟩
          case measure => simp [intOf]; omega
        | false =>
          go_wp2_with fail
          go_roundw
          case rel => exact ⟨j + 1, by omega, by go_num, by rw [← HD.out]; rfl, by first | rfl | trivial⟩
          case measure => simp [intOf]; omega
      have hji : ¬ (j : Int) < (q : Int) := by omega
      have hall : T.take j = T := List.take_of_length_le (by rw [← HQ.out]; omega)
      rw [hall]
      have hmem : decide (m ∈ T) = true ↔ m ∈ T := decide_eq_true_iff
      obtain ⟨hd, hhd⟩ : ∃ hd, hd = decide (m ∈ T) := ⟨_, rfl⟩
      rw [← hhd] at hmem ⊢
      have HF := Lib.hid ((HI.out.2.2.2 m).trans (show _ ↔ (0 ≤ m ∧ m ≤ 4611686018427387904 ∧ hd = false ∧ top - 1024 < m) from by
        rw [show (hd = false ↔ m ∉ T) from by rw [← hmem]; simp]; exact Iff.rfl))
      obtain ⟨F, hF⟩ : ∃ F, F = decide (FreshW a m) := ⟨_, rfl⟩
      have HFE := Lib.hid hF
      have hb0 := once_top HI.out
      unfold most at hb0
      have hw1 : IntKind.i64.wrap (top - 1024) = top - 1024 := IntWalk.i64_in _ (by omega)
      have hw2 : wrap64 (top - 1024) = top - 1024 := by unfold wrap64; omega
      clear hall hmem hhd hF k1 hb1
      go_upto_region 16 with (fail)
      go_cut [11] (fun mv wx => mv = .bool F ∧ wx = wr)
      case first =>
        by_cases h1 : 0 ≤ m
        case neg =>
          obtain rfl : F = false := HFE.out.trans (decide_eq_false (fun h => h1 (HF.out.1 h).1))
          go_wp2_with fail
          go_meet
          case rel => exact ⟨by first | rfl | (simp; done) | (simp; omega), by first | rfl | trivial⟩
        by_cases h2 : m ≤ 4611686018427387904
        case neg =>
          obtain rfl : F = false := HFE.out.trans (decide_eq_false (fun h => h2 (HF.out.1 h).2.1))
          go_wp2_with fail
          go_meet
          case rel => exact ⟨by first | rfl | (simp; done) | (simp; omega), by first | rfl | trivial⟩
        cases hd with
        | true =>
          obtain rfl : F = false := HFE.out.trans (decide_eq_false (fun h => Bool.noConfusion (HF.out.1 h).2.2.1))
          go_wp2_with fail
          go_meet
          case rel => exact ⟨by first | rfl | (simp; done) | (simp; omega), by first | rfl | trivial⟩
        | false =>
          by_cases h3 : top - 1024 < m
          case neg =>
            obtain rfl : F = false := HFE.out.trans (decide_eq_false (fun h => h3 (HF.out.1 h).2.2.2))
            go_wp2_with fail
            go_meet
            case rel => exact ⟨by first | rfl | (simp; done) | (simp; omega), by first | rfl | trivial⟩
          obtain rfl : F = true := HFE.out.trans (decide_eq_true (HF.out.2 ⟨h1, h2, rfl, h3⟩))
          go_wp2_with fail
          go_meet
          case rel => exact ⟨by first | rfl | (simp; done) | (simp; omega), by first | rfl | trivial⟩
      case rest =>
      obtain ⟨rfl, hw⟩ := hcut
      obtain rfl := hw.symm
      have CF := Lib.hid (fun w => wFresh_any a HI.out.2.1 HI.out.1 m ⟨m1, m2⟩ w)
      rw [← HFE.out] at CF
      have C1 := Lib.hid (fun w => wMark_any a HI.out.2.1 HI.out.1 m ⟨m1, m2⟩ w)
      unfold AnsWn at C1
      have hW6 := hw1
      clear hw1 hw2
      by_cases hin : 0 ≤ m ∧ m ≤ 4611686018427387904
      case neg =>
        rw [show markR a m = (a, 1) from markR_arg hin] at C1
        simp only at C1
        obtain rfl : F = false := HFE.out.trans (decide_eq_false (fun h => hin ⟨(HF.out.1 h).1, (HF.out.1 h).2.1⟩))
        have CR := Lib.hid (fun w => right10_any a HI.out.2.1 w)
        rw [decide_eq_true HI.out.1] at CR
        have hne := fun w => run_neqW w a a
        simp only [decide_eq_true (SameW.refl a), Bool.not_true] at hne
        clear HF HFE
        by_cases hm0 : m < 0
        case pos =>
          go_wp2_with (first | (refine loadW _ (.tmp 4) g4 a G4.out rfl rfl rfl ?_))
          refine (C1.out _).mono ?_
          rintro e w21 ⟨rfl, hb⟩
          have nHB := Lib.hid (belG HB.out hb HB.out.size)
          have nG4 := Lib.hid (oldG G4.out hb (Nat.le_refl _))
          have nHO := Lib.hid (HO.out.call hb)
          clear hb
          clear HB G4
          have HB := nHB
          have G4 := nG4
          clear nHB nG4
          clear HO
          have HO := nHO
          clear nHO
          have LB := Lib.hid HB.out.size
          have LTG4 := Lib.hid (show g4 < w21.heap.size from (Array.getElem?_eq_some_iff.1 G4.out).1)
          obtain ⟨V21, hV21⟩ : ∃ V, V = w21.alloc (.cells (winC a) 25) := ⟨_, rfl⟩
          have ha := (Below.refl w21.heap.size w21).alloc (Nat.le_refl _) (.cells (winC a) 25)
          have hg := heap_alloc_new w21 (.cells (winC a) 25)
          have nHB := Lib.hid (HB.out.alloc HB.out.size (.cells (winC a) 25))
          rw [← hV21] at ha hg nHB
          have nG4 := Lib.hid (oldG G4.out ha (Nat.le_refl _))
          have nHO := Lib.hid (HO.out.call ha)
          obtain ⟨g12, hg12⟩ : ∃ g, g = w21.heap.size := ⟨_, rfl⟩
          rw [← hg12] at hg
          have HXG12 := Lib.hid hg12
          have G12 := Lib.hid hg
          have HV := Lib.hid hV21
          clear ha hg hV21 hg12
          clear HB G4
          have HB := nHB
          have G4 := nG4
          clear nHB nG4
          clear HO
          have HO := nHO
          clear nHO
          have LEG12 := Lib.hid (show W.heap.size ≤ g12 from by rw [HXG12.out]; exact LB.out)
          have NEG4G12 := Lib.hid (show g4 ≠ g12 from by have h1 := LTG4.out; rw [HXG12.out]; omega)
          have NEG12G4 := Lib.hid (NEG4G12.out.symm)
          clear LB LTG4
          go_upto_region 18 with (refine storeW _ (.tmp 12) (.tmp 66) _ a _ (heap_alloc_new _ _) rfl rfl rfl rfl rfl ?_; rw [setRowG_fold])
          rw [← HV.out]
          (try rw [← HXG12.out])
          clear HV HXG12
          go_wp2_with (first | (refine loadW _ (.tmp 4) g4 a G4.out rfl rfl rfl ?_))
          refine (CF.out _).mono ?_
          rintro e w22 ⟨rfl, hb⟩
          have nHB := Lib.hid (belG HB.out hb HB.out.size)
          have nG4 := Lib.hid (oldG G4.out hb (Nat.le_refl _))
          have nG12 := Lib.hid (oldG G12.out hb (Nat.le_refl _))
          have nHO := Lib.hid (HO.out.call hb)
          clear hb
          clear HB G4 G12
          have HB := nHB
          have G4 := nG4
          have G12 := nG12
          clear nHB nG4 nG12
          clear HO
          have HO := nHO
          clear nHO
          go_wp2_with (first | (refine loadW _ (.tmp 12) g12 a G12.out rfl rfl rfl ?_))
          refine (CR.out _).mono ?_
          rintro e w23 ⟨rfl, hb⟩
          have nHB := Lib.hid (belG HB.out hb HB.out.size)
          have nG4 := Lib.hid (oldG G4.out hb (Nat.le_refl _))
          have nG12 := Lib.hid (oldG G12.out hb (Nat.le_refl _))
          have nHO := Lib.hid (HO.out.call hb)
          clear hb
          clear HB G4 G12
          have HB := nHB
          have G4 := nG4
          have G12 := nG12
          clear nHB nG4 nG12
          clear HO
          have HO := nHO
          clear nHO
          go_upto_region 20 with (first | (refine loadW _ (.tmp 12) g12 a G12.out rfl rfl rfl ?_) | (refine loadW _ (.tmp 4) g4 a G4.out rfl rfl rfl ?_))
          go_upto_region 25 with (fail)
          go_upto_region 9 with (first | (refine loadW _ (.tmp 12) g12 a G12.out rfl rfl rfl ?_) | (refine storeW _ (.tmp 4) (.tmp 110) g4 a _ G4.out rfl rfl rfl rfl rfl ?_))
          obtain ⟨V24, hV24⟩ : ∃ V, V = w23.setRow g4 (winC a) := ⟨_, rfl⟩
          have nHB := Lib.hid (show Below W.heap.size W V24 by rw [hV24]; exact Below.setRowG HB.out LEG4.out _)
          have nHO := Lib.hid (show OwI V24 W.heap.size _ _ from by rw [hV24]; exact HO.out.setRowW G4.out _)
          have nG4 := Lib.hid (show BoxW V24 g4 a from by rw [hV24]; exact setRow_heap _ _ _ _ _ _ G4.out)
          rw [← hV24]
          clear hV24
          clear HB G4
          have HB := nHB
          have G4 := nG4
          clear nHB nG4
          clear HO
          have HO := nHO
          clear nHO
          go_wp2_with fail
          go_roundw
          case rel => exact ⟨k + 1, T, top, a, by omega, by go_num, rfl, HI, Lib.hid (by have h1 := HTL.out; have h2 := HQ.out; omega), HO, G4, HB⟩
          case measure => simp [intOf]; omega
        have hm1 : 4611686018427387904 < m := by omega
        have hm3 : ¬ m < 0 := hm0
        go_wp2_with (first | (refine loadW _ (.tmp 4) g4 a G4.out rfl rfl rfl ?_))
        refine (C1.out _).mono ?_
        rintro e w21 ⟨rfl, hb⟩
        have nHB := Lib.hid (belG HB.out hb HB.out.size)
        have nG4 := Lib.hid (oldG G4.out hb (Nat.le_refl _))
        have nHO := Lib.hid (HO.out.call hb)
        clear hb
        clear HB G4
        have HB := nHB
        have G4 := nG4
        clear nHB nG4
        clear HO
        have HO := nHO
        clear nHO
        have LB := Lib.hid HB.out.size
        have LTG4 := Lib.hid (show g4 < w21.heap.size from (Array.getElem?_eq_some_iff.1 G4.out).1)
        obtain ⟨V21, hV21⟩ : ∃ V, V = w21.alloc (.cells (winC a) 25) := ⟨_, rfl⟩
        have ha := (Below.refl w21.heap.size w21).alloc (Nat.le_refl _) (.cells (winC a) 25)
        have hg := heap_alloc_new w21 (.cells (winC a) 25)
        have nHB := Lib.hid (HB.out.alloc HB.out.size (.cells (winC a) 25))
        rw [← hV21] at ha hg nHB
        have nG4 := Lib.hid (oldG G4.out ha (Nat.le_refl _))
        have nHO := Lib.hid (HO.out.call ha)
        obtain ⟨g12, hg12⟩ : ∃ g, g = w21.heap.size := ⟨_, rfl⟩
        rw [← hg12] at hg
        have HXG12 := Lib.hid hg12
        have G12 := Lib.hid hg
        have HV := Lib.hid hV21
        clear ha hg hV21 hg12
        clear HB G4
        have HB := nHB
        have G4 := nG4
        clear nHB nG4
        clear HO
        have HO := nHO
        clear nHO
        have LEG12 := Lib.hid (show W.heap.size ≤ g12 from by rw [HXG12.out]; exact LB.out)
        have NEG4G12 := Lib.hid (show g4 ≠ g12 from by have h1 := LTG4.out; rw [HXG12.out]; omega)
        have NEG12G4 := Lib.hid (NEG4G12.out.symm)
        clear LB LTG4
        go_upto_region 18 with (refine storeW _ (.tmp 12) (.tmp 66) _ a _ (heap_alloc_new _ _) rfl rfl rfl rfl rfl ?_; rw [setRowG_fold])
        rw [← HV.out]
        (try rw [← HXG12.out])
        clear HV HXG12
        go_wp2_with (first | (refine loadW _ (.tmp 4) g4 a G4.out rfl rfl rfl ?_))
        refine (CF.out _).mono ?_
        rintro e w22 ⟨rfl, hb⟩
        have nHB := Lib.hid (belG HB.out hb HB.out.size)
        have nG4 := Lib.hid (oldG G4.out hb (Nat.le_refl _))
        have nG12 := Lib.hid (oldG G12.out hb (Nat.le_refl _))
        have nHO := Lib.hid (HO.out.call hb)
        clear hb
        clear HB G4 G12
        have HB := nHB
        have G4 := nG4
        have G12 := nG12
        clear nHB nG4 nG12
        clear HO
        have HO := nHO
        clear nHO
        go_wp2_with (first | (refine loadW _ (.tmp 12) g12 a G12.out rfl rfl rfl ?_))
        refine (CR.out _).mono ?_
        rintro e w23 ⟨rfl, hb⟩
        have nHB := Lib.hid (belG HB.out hb HB.out.size)
        have nG4 := Lib.hid (oldG G4.out hb (Nat.le_refl _))
        have nG12 := Lib.hid (oldG G12.out hb (Nat.le_refl _))
        have nHO := Lib.hid (HO.out.call hb)
        clear hb
        clear HB G4 G12
        have HB := nHB
        have G4 := nG4
        have G12 := nG12
        clear nHB nG4 nG12
        clear HO
        have HO := nHO
        clear nHO
        go_upto_region 20 with (first | (refine loadW _ (.tmp 12) g12 a G12.out rfl rfl rfl ?_) | (refine loadW _ (.tmp 4) g4 a G4.out rfl rfl rfl ?_))
        go_upto_region 25 with (fail)
        go_upto_region 9 with (first | (refine loadW _ (.tmp 12) g12 a G12.out rfl rfl rfl ?_) | (refine storeW _ (.tmp 4) (.tmp 110) g4 a _ G4.out rfl rfl rfl rfl rfl ?_))
        obtain ⟨V24, hV24⟩ : ∃ V, V = w23.setRow g4 (winC a) := ⟨_, rfl⟩
        have nHB := Lib.hid (show Below W.heap.size W V24 by rw [hV24]; exact Below.setRowG HB.out LEG4.out _)
        have nHO := Lib.hid (show OwI V24 W.heap.size _ _ from by rw [hV24]; exact HO.out.setRowW G4.out _)
        have nG4 := Lib.hid (show BoxW V24 g4 a from by rw [hV24]; exact setRow_heap _ _ _ _ _ _ G4.out)
        rw [← hV24]
        clear hV24
        clear HB G4
        have HB := nHB
        have G4 := nG4
        clear nHB nG4
        clear HO
        have HO := nHO
        clear nHO
        go_wp2_with fail
        go_roundw
        case rel => exact ⟨k + 1, T, top, a, by omega, by go_num, rfl, HI, Lib.hid (by have h1 := HTL.out; have h2 := HQ.out; omega), HO, G4, HB⟩
        case measure => simp [intOf]; omega
      obtain ⟨hin1, hin2⟩ := hin
      have hm3 : ¬ m < 0 := by omega
      have hm4 : ¬ 4611686018427387904 < m := by omega
      by_cases hfr : FreshW a m
      case neg =>
        rw [show markR a m = (a, 6) from markR_old ⟨hin1, hin2⟩ hfr] at C1
        simp only at C1
        obtain rfl : F = false := HFE.out.trans (decide_eq_false hfr)
        have CR := Lib.hid (fun w => right10_any a HI.out.2.1 w)
        rw [decide_eq_true HI.out.1] at CR
        have hne := fun w => run_neqW w a a
        simp only [decide_eq_true (SameW.refl a), Bool.not_true] at hne
        clear HF HFE hfr
        go_wp2_with (first | (refine loadW _ (.tmp 4) g4 a G4.out rfl rfl rfl ?_))
        refine (C1.out _).mono ?_
        rintro e w21 ⟨rfl, hb⟩
        have nHB := Lib.hid (belG HB.out hb HB.out.size)
        have nG4 := Lib.hid (oldG G4.out hb (Nat.le_refl _))
        have nHO := Lib.hid (HO.out.call hb)
        clear hb
        clear HB G4
        have HB := nHB
        have G4 := nG4
        clear nHB nG4
        clear HO
        have HO := nHO
        clear nHO
        have LB := Lib.hid HB.out.size
        have LTG4 := Lib.hid (show g4 < w21.heap.size from (Array.getElem?_eq_some_iff.1 G4.out).1)
        obtain ⟨V21, hV21⟩ : ∃ V, V = w21.alloc (.cells (winC a) 25) := ⟨_, rfl⟩
        have ha := (Below.refl w21.heap.size w21).alloc (Nat.le_refl _) (.cells (winC a) 25)
        have hg := heap_alloc_new w21 (.cells (winC a) 25)
        have nHB := Lib.hid (HB.out.alloc HB.out.size (.cells (winC a) 25))
        rw [← hV21] at ha hg nHB
        have nG4 := Lib.hid (oldG G4.out ha (Nat.le_refl _))
        have nHO := Lib.hid (HO.out.call ha)
        obtain ⟨g12, hg12⟩ : ∃ g, g = w21.heap.size := ⟨_, rfl⟩
        rw [← hg12] at hg
        have HXG12 := Lib.hid hg12
        have G12 := Lib.hid hg
        have HV := Lib.hid hV21
        clear ha hg hV21 hg12
        clear HB G4
        have HB := nHB
        have G4 := nG4
        clear nHB nG4
        clear HO
        have HO := nHO
        clear nHO
        have LEG12 := Lib.hid (show W.heap.size ≤ g12 from by rw [HXG12.out]; exact LB.out)
        have NEG4G12 := Lib.hid (show g4 ≠ g12 from by have h1 := LTG4.out; rw [HXG12.out]; omega)
        have NEG12G4 := Lib.hid (NEG4G12.out.symm)
        clear LB LTG4
        go_upto_region 18 with (refine storeW _ (.tmp 12) (.tmp 66) _ a _ (heap_alloc_new _ _) rfl rfl rfl rfl rfl ?_; rw [setRowG_fold])
        rw [← HV.out]
        (try rw [← HXG12.out])
        clear HV HXG12
        go_wp2_with (first | (refine loadW _ (.tmp 4) g4 a G4.out rfl rfl rfl ?_))
        refine (CF.out _).mono ?_
        rintro e w22 ⟨rfl, hb⟩
        have nHB := Lib.hid (belG HB.out hb HB.out.size)
        have nG4 := Lib.hid (oldG G4.out hb (Nat.le_refl _))
        have nG12 := Lib.hid (oldG G12.out hb (Nat.le_refl _))
        have nHO := Lib.hid (HO.out.call hb)
        clear hb
        clear HB G4 G12
        have HB := nHB
        have G4 := nG4
        have G12 := nG12
        clear nHB nG4 nG12
        clear HO
        have HO := nHO
        clear nHO
        go_wp2_with (first | (refine loadW _ (.tmp 12) g12 a G12.out rfl rfl rfl ?_))
        refine (CR.out _).mono ?_
        rintro e w23 ⟨rfl, hb⟩
        have nHB := Lib.hid (belG HB.out hb HB.out.size)
        have nG4 := Lib.hid (oldG G4.out hb (Nat.le_refl _))
        have nG12 := Lib.hid (oldG G12.out hb (Nat.le_refl _))
        have nHO := Lib.hid (HO.out.call hb)
        clear hb
        clear HB G4 G12
        have HB := nHB
        have G4 := nG4
        have G12 := nG12
        clear nHB nG4 nG12
        clear HO
        have HO := nHO
        clear nHO
        go_upto_region 20 with (first | (refine loadW _ (.tmp 12) g12 a G12.out rfl rfl rfl ?_) | (refine loadW _ (.tmp 4) g4 a G4.out rfl rfl rfl ?_))
        go_upto_region 25 with (fail)
        go_upto_region 9 with (first | (refine loadW _ (.tmp 12) g12 a G12.out rfl rfl rfl ?_) | (refine storeW _ (.tmp 4) (.tmp 110) g4 a _ G4.out rfl rfl rfl rfl rfl ?_))
        obtain ⟨V24, hV24⟩ : ∃ V, V = w23.setRow g4 (winC a) := ⟨_, rfl⟩
        have nHB := Lib.hid (show Below W.heap.size W V24 by rw [hV24]; exact Below.setRowG HB.out LEG4.out _)
        have nHO := Lib.hid (show OwI V24 W.heap.size _ _ from by rw [hV24]; exact HO.out.setRowW G4.out _)
        have nG4 := Lib.hid (show BoxW V24 g4 a from by rw [hV24]; exact setRow_heap _ _ _ _ _ _ G4.out)
        rw [← hV24]
        clear hV24
        clear HB G4
        have HB := nHB
        have G4 := nG4
        clear nHB nG4
        clear HO
        have HO := nHO
        clear nHO
        go_wp2_with fail
        go_roundw
        case rel => exact ⟨k + 1, T, top, a, by omega, by go_num, rfl, HI, Lib.hid (by have h1 := HTL.out; have h2 := HQ.out; omega), HO, G4, HB⟩
        case measure => simp [intOf]; omega
      rw [markR_ok hfr] at C1
      simp only at C1
      obtain rfl : F = true := HFE.out.trans (decide_eq_true hfr)
      have HI2 := Lib.hid (once_step HI.out hfr)
      have CR := Lib.hid (fun w => right10_any (markW a m) (markW_64 _ _) w)
      rw [decide_eq_true (mark_right HI.out.1 hfr)] at CR
      clear HF HFE hfr
      generalize markW a m = x at *
      go_wp2_with (first | (refine loadW _ (.tmp 4) g4 a G4.out rfl rfl rfl ?_))
      refine (C1.out _).mono ?_
      rintro e w21 ⟨rfl, hb⟩
      have nHB := Lib.hid (belG HB.out hb HB.out.size)
      have nG4 := Lib.hid (oldG G4.out hb (Nat.le_refl _))
      have nHO := Lib.hid (HO.out.call hb)
      clear hb
      clear HB G4
      have HB := nHB
      have G4 := nG4
      clear nHB nG4
      clear HO
      have HO := nHO
      clear nHO
      have LB := Lib.hid HB.out.size
      have LTG4 := Lib.hid (show g4 < w21.heap.size from (Array.getElem?_eq_some_iff.1 G4.out).1)
      obtain ⟨V21, hV21⟩ : ∃ V, V = w21.alloc (.cells (winC x) 25) := ⟨_, rfl⟩
      have ha := (Below.refl w21.heap.size w21).alloc (Nat.le_refl _) (.cells (winC x) 25)
      have hg := heap_alloc_new w21 (.cells (winC x) 25)
      have nHB := Lib.hid (HB.out.alloc HB.out.size (.cells (winC x) 25))
      rw [← hV21] at ha hg nHB
      have nG4 := Lib.hid (oldG G4.out ha (Nat.le_refl _))
      have nHO := Lib.hid (HO.out.call ha)
      obtain ⟨g12, hg12⟩ : ∃ g, g = w21.heap.size := ⟨_, rfl⟩
      rw [← hg12] at hg
      have HXG12 := Lib.hid hg12
      have G12 := Lib.hid hg
      have HV := Lib.hid hV21
      clear ha hg hV21 hg12
      clear HB G4
      have HB := nHB
      have G4 := nG4
      clear nHB nG4
      clear HO
      have HO := nHO
      clear nHO
      have LEG12 := Lib.hid (show W.heap.size ≤ g12 from by rw [HXG12.out]; exact LB.out)
      have NEG4G12 := Lib.hid (show g4 ≠ g12 from by have h1 := LTG4.out; rw [HXG12.out]; omega)
      have NEG12G4 := Lib.hid (NEG4G12.out.symm)
      clear LB LTG4
      go_upto_region 18 with (refine storeW _ (.tmp 12) (.tmp 66) _ x _ (heap_alloc_new _ _) rfl rfl rfl rfl rfl ?_; rw [setRowG_fold])
      rw [← HV.out]
      (try rw [← HXG12.out])
      clear HV HXG12
      go_wp2_with (first | (refine loadW _ (.tmp 4) g4 a G4.out rfl rfl rfl ?_))
      refine (CF.out _).mono ?_
      rintro e w22 ⟨rfl, hb⟩
      have nHB := Lib.hid (belG HB.out hb HB.out.size)
      have nG4 := Lib.hid (oldG G4.out hb (Nat.le_refl _))
      have nG12 := Lib.hid (oldG G12.out hb (Nat.le_refl _))
      have nHO := Lib.hid (HO.out.call hb)
      clear hb
      clear HB G4 G12
      have HB := nHB
      have G4 := nG4
      have G12 := nG12
      clear nHB nG4 nG12
      clear HO
      have HO := nHO
      clear nHO
      go_wp2_with (first | (refine loadW _ (.tmp 12) g12 x G12.out rfl rfl rfl ?_))
      refine (CR.out _).mono ?_
      rintro e w23 ⟨rfl, hb⟩
      have nHB := Lib.hid (belG HB.out hb HB.out.size)
      have nG4 := Lib.hid (oldG G4.out hb (Nat.le_refl _))
      have nG12 := Lib.hid (oldG G12.out hb (Nat.le_refl _))
      have nHO := Lib.hid (HO.out.call hb)
      clear hb
      clear HB G4 G12
      have HB := nHB
      have G4 := nG4
      have G12 := nG12
      clear nHB nG4 nG12
      clear HO
      have HO := nHO
      clear nHO
      go_upto_region 20 with (fail)
      go_upto_region 23 with (fail)
      have HTB := Lib.hid (show T.length + [m].length ≤ 10000000 from by have h1 := HTL.out; have h2 := HQ.out; show _ + 1 ≤ _; omega)
      go_upto_region 24 with (at_builtin; go_loud (refine wpList_appI _ rfl (.tmp 103) (.tmp 105) rfl W.heap.size _ T [m] rfl (by exact HO.out.alloc _) (some ⟨w23.heap.size, 0, none⟩) 1 1 (w23.heap.size + 1) rfl rfl (by exact rdi_new1 _ _) HTB.out (by exact le_alloc HB.out.size _) ?_; intro v6 w6 hown6 hgrow6; have HO6 := Lib.hid hown6; have HB6 := Lib.hid (OwI.below (base := W.heap.size) (w0 := W) (HO.out.alloc _) (HB.out.alloc HB.out.size _) hgrow6 (le_alloc HB.out.size _)); have G46 := Lib.hid (OwI.keepW (HO.out.alloc _) (BoxW.alloc G4.out _) hgrow6); have G126 := Lib.hid (OwI.keepW (HO.out.alloc _) (BoxW.alloc G12.out _) hgrow6); clear hown6 hgrow6))
      clear HO HB G4 G12
      have HO := HO6
      have HB := HB6
      have G4 := G46
      have G12 := G126
      clear HO6 HB6 G46 G126
      by_cases hmx : top < m
      case pos =>
        have HI3 := Lib.hid (show OnceI x (T ++ [m]) m from by have h := HI2.out; rwa [show max top m = m by omega] at h)
        go_upto_region 9 with (first | (refine loadW _ (.tmp 12) g12 x G12.out rfl rfl rfl ?_) | (refine storeW _ (.tmp 4) (.tmp 110) g4 x _ G4.out rfl rfl rfl rfl rfl ?_))
        obtain ⟨V41, hV41⟩ : ∃ V, V = w6.setRow g4 (winC x) := ⟨_, rfl⟩
        have nHB := Lib.hid (show Below W.heap.size W V41 by rw [hV41]; exact Below.setRowG HB.out LEG4.out _)
        have nHO := Lib.hid (show OwI V41 W.heap.size _ _ from by rw [hV41]; exact HO.out.setRowW G4.out _)
        have nG4 := Lib.hid (show BoxW V41 g4 x from by rw [hV41]; exact setRow_heap _ _ _ _ _ _ G4.out)
        rw [← hV41]
        clear hV41
        clear HB G4
        have HB := nHB
        have G4 := nG4
        clear nHB nG4
        clear HO
        have HO := nHO
        clear nHO
        go_wp2_with fail
        go_roundw
        case rel => exact ⟨k + 1, T ++ [m], m, x, by omega, by go_num, rfl, HI3, Lib.hid (by have h1 := HTL.out; have h2 := HQ.out; rw [List.length_append]; show _ + 1 ≤ _; omega), HO, G4, HB⟩
        case measure => simp [intOf]; omega
      have HI3 := Lib.hid (show OnceI x (T ++ [m]) top from by have h := HI2.out; rwa [show max top m = top by omega] at h)
      go_upto_region 9 with (first | (refine loadW _ (.tmp 12) g12 x G12.out rfl rfl rfl ?_) | (refine storeW _ (.tmp 4) (.tmp 110) g4 x _ G4.out rfl rfl rfl rfl rfl ?_))
      obtain ⟨V41, hV41⟩ : ∃ V, V = w6.setRow g4 (winC x) := ⟨_, rfl⟩
      have nHB := Lib.hid (show Below W.heap.size W V41 by rw [hV41]; exact Below.setRowG HB.out LEG4.out _)
      have nHO := Lib.hid (show OwI V41 W.heap.size _ _ from by rw [hV41]; exact HO.out.setRowW G4.out _)
      have nG4 := Lib.hid (show BoxW V41 g4 x from by rw [hV41]; exact setRow_heap _ _ _ _ _ _ G4.out)
      rw [← hV41]
      clear hV41
      clear HB G4
      have HB := nHB
      have G4 := nG4
      clear nHB nG4
      clear HO
      have HO := nHO
      clear nHO
      go_wp2_with fail
      go_roundw
      case rel => exact ⟨k + 1, T ++ [m], top, x, by omega, by go_num, rfl, HI3, Lib.hid (by have h1 := HTL.out; have h2 := HQ.out; rw [List.length_append]; show _ + 1 ≤ _; omega), HO, G4, HB⟩
      case measure => simp [intOf]; omega
end Go.Proofs.Ytdnfggjklblpnaa
