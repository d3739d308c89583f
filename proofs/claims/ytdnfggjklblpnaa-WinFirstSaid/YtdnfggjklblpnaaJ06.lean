
/- Package win: Fresh, Mark: what each call answers. -/
import Derived.Test.YtdnfggjklblpnaaJ05
namespace Go.Proofs.Ytdnfggjklblpnaa
open Go.RowKit

set_option maxRecDepth 100000 in
set_option maxHeartbeats 4000000 in
theorem wFresh0_any (a : Wn) (h64 : W64 a) (hR : RightW a) (n : Int) (hn : B64w n) (W : World) : Calls Try.prog 13 #[.agg (winC a), .int .i64 n] W fun e W' => e = .returned (.bool (decide (FreshW a n))) ∧ Below W.heap.size W W' := by
  obtain ⟨V, C, hC, hV, hb, hg⟩ := boxW1 W a
  have HB := Lib.hid hb
  have HV := Lib.hid hV
  have G0 := Lib.hid hg
  obtain ⟨r1, r2, -⟩ := hR
  unfold most at r2
  obtain ⟨T, hT⟩ := Int.eq_ofNat_of_zero_le r1
  have hTb : T ≤ 4611686018427387905 := by omega
  have HIFF := Lib.hid (fresh_iff (n := n) hT)
  have HTC := Lib.hid (show (winC a)[0]? = some (.int .i64 (T : Int)) from by rw [winC_top, hT])
  have x0 := hg.cell HTC.out
  have CI := Lib.hid (fun w => wis_any n w)
  rw [← hC]
  obtain ⟨D, hD⟩ : ∃ D, D = decide (FreshW a n) := ⟨_, rfl⟩
  rw [← hD]
  have HDE := Lib.hid hD
  clear hg hb hC hV hD r1 r2 hT
  by_cases hin : 0 ≤ n ∧ n ≤ most
  case neg =>
    obtain rfl : D = false := HDE.out.trans (decide_eq_false (fun h => hin ⟨h.1, h.2.1⟩))
    rw [decide_eq_false hin] at CI
    clear HDE HIFF hin h64
    go_enter Try.func13, Try.ntmps13
    go_upto_region 1 with (fail)
    rw [← HV.out]
    go_wp2_with fail
    refine (CI.out _).mono ?_
    rintro e w1 ⟨rfl, hw⟩
    obtain rfl := hw.symm
    go_wp2_with fail
    go_ret
    exact ⟨by first | rfl | simp, HB.out⟩
  rw [decide_eq_true hin] at CI
  have HIN := Lib.hid hin
  obtain ⟨N, rfl⟩ := Int.eq_ofNat_of_zero_le hin.1
  have hNb : N ≤ 4611686018427387904 := by have := hin.2; unfold most at this; omega
  clear hin
  by_cases hge : T ≤ N
  case pos =>
    obtain rfl : D = true := HDE.out.trans (decide_eq_true (HIFF.out.2 ⟨HIN.out.1, HIN.out.2, .inl (by omega)⟩))
    have hgi : (T : Int) ≤ (N : Int) := by omega
    have hd1 : decide ((T : Int) ≤ (N : Int)) = true := decide_eq_true hgi
    have hd2 : decide (T ≤ N) = true := decide_eq_true hge
    clear HDE HIFF h64
    go_enter Try.func13, Try.ntmps13
    go_upto_region 1 with (fail)
    rw [← HV.out]
    go_wp2_with fail
    refine (CI.out _).mono ?_
    rintro e w1 ⟨rfl, hw⟩
    obtain rfl := hw.symm
    go_wp2_with fail
    go_ret
    exact ⟨by first | rfl | simp, HB.out⟩
  have hgi : ¬ (T : Int) ≤ (N : Int) := by omega
  have hd1 : decide ((T : Int) ≤ (N : Int)) = false := decide_eq_false hgi
  have hd2 : decide (T ≤ N) = false := decide_eq_false hge
  obtain ⟨d, hd⟩ : ∃ d, d = T - N := ⟨_, rfl⟩
  have hdi : (T : Int) - (N : Int) = (d : Int) := by omega
  have hdb : d ≤ 4611686018427387905 := by omega
  by_cases hnear : d ≤ 1024
  case neg =>
    obtain rfl : D = false := HDE.out.trans (decide_eq_false (fun h => by rcases (HIFF.out.1 h).2.2 with h | h; exact hgi h; exact hnear (by omega)))
    have hni : ¬ (d : Int) ≤ 1024 := by omega
    have hd3 : decide ((d : Int) ≤ 1024) = false := decide_eq_false hni
    have hd4 : decide (d ≤ 1024) = false := decide_eq_false hnear
    clear HDE HIFF h64 hd
    go_enter Try.func13, Try.ntmps13
    go_upto_region 1 with (fail)
    rw [← HV.out]
    go_wp2_with fail
    refine (CI.out _).mono ?_
    rintro e w1 ⟨rfl, hw⟩
    obtain rfl := hw.symm
    go_wp2_with fail
    go_ret
    exact ⟨by first | rfl | simp, HB.out⟩
  obtain ⟨p, hp⟩ : ∃ p, p = N % 1024 := ⟨_, rfl⟩
  have CM := Lib.hid (fun w => wmarked_any a h64 (N : Int) hn p (by omega) w)
  have HDD : D = !hasW a p := by
    rw [HDE.out, Bool.eq_iff_iff, decide_eq_true_iff, HIFF.out, show (N : Int).toNat % 1024 = p by omega, Bool.not_eq_true']
    exact ⟨fun h => by rcases h.2.2 with h | h; exact absurd h hgi; exact h.2, fun h => ⟨HIN.out.1, HIN.out.2, .inr ⟨by omega, h⟩⟩⟩
  have hni : (d : Int) ≤ 1024 := by omega
  have hd3 : decide ((d : Int) ≤ 1024) = true := decide_eq_true hni
  have hd4 : decide (d ≤ 1024) = true := decide_eq_true hnear
  clear HDE HIFF h64 hd hp
  go_enter Try.func13, Try.ntmps13
  go_upto_region 1 with (fail)
  rw [← HV.out]
  go_wp2_with fail
  refine (CI.out _).mono ?_
  rintro e w1 ⟨rfl, hw⟩
  obtain rfl := hw.symm
  go_wp2_with (with_reducible refine at_listG ?_; refine loadW _ (.tmp 2) W.heap.size a G0.out rfl rfl rfl ?_)
  refine (CM.out _).mono ?_
  rintro e w2 ⟨rfl, hb⟩
  have HB2 := Lib.hid (belG HB.out hb HB.out.size)
  clear hb
  generalize hasW a p = u at *
  obtain rfl := HDD
  cases u with
  | true =>
    go_wp2_with fail
    go_ret
    exact ⟨by first | rfl | simp, HB2.out⟩
  | false =>
    go_wp2_with fail
    go_ret
    exact ⟨by first | rfl | simp, HB2.out⟩
set_option maxRecDepth 100000 in
theorem mark_up {a x : Wn} {T N p : Nat} (hT : a.top = (T : Int)) (_h64 : W64 a) (hge : T ≤ N) (h : ClrW a T (N - T) x) (hp : p = N % 1024) : winC ⟨((N + 1 : Nat) : Int), updN x.b (p / 64) (x.b (p / 64) ||| 2 ^ (p % 64))⟩ = winC (markW a N) := by
  have hpb : p < 1024 := by omega
  have hbit := h.1 (p / 64) (by omega)
  have htw : topW a (N : Int) = ((N + 1 : Nat) : Int) := by unfold topW; rw [if_pos (by omega)]; omega
  refine winC_congr (same_of_has (setW_64 h.1 _ _ (Nat.or_lt_two_pow (n := 64) hbit (pow2_lt (by omega)))) (markW_64 _ _) htw.symm (fun q hq => ?_))
  rw [has_or x _ p q, h.2.2 q hq, has_mark, htw]
  unfold clrG markG
  rw [show (N : Int).toNat % 1024 = p by omega]
  by_cases e : q = p
  · rw [decide_eq_true e, Bool.or_true, Bool.or_true]
  · congr 2
    unfold numW
    rw [hT]
    exact decide_eq_decide.2 (by omega)
set_option maxRecDepth 100000 in
theorem mark_in {a : Wn} {T N p : Nat} (hT : a.top = (T : Int)) (h64 : W64 a) (hge : ¬ T ≤ N) (hp : p = N % 1024) : winC ⟨(T : Int), updN a.b (p / 64) (a.b (p / 64) ||| 2 ^ (p % 64))⟩ = winC (markW a N) := by
  have hpb : p < 1024 := by omega
  have hbit := h64 (p / 64) (by omega)
  have htw : topW a (N : Int) = (T : Int) := by unfold topW; rw [if_neg (by omega), hT]
  refine winC_congr (same_of_has (setW_64 h64 _ _ (Nat.or_lt_two_pow (n := 64) hbit (pow2_lt (by omega)))) (markW_64 _ _) htw.symm (fun q hq => ?_))
  rw [has_or a _ p q, has_mark, htw]
  unfold markG
  rw [show (N : Int).toNat % 1024 = p by omega, hT]
  have := numW_bd (T : Int) q
  rw [decide_eq_true (show (T : Int) - 1024 ≤ numW (T : Int) q from this.1), Bool.and_true]
set_option maxRecDepth 100000 in
set_option maxHeartbeats 4000000 in
theorem wMark0_any (a : Wn) (h64 : W64 a) (hR : RightW a) (n : Int) (hn : B64w n) (W : World) : Calls Try.prog 15 #[.agg (winC a), .int .i64 n] W fun e W' => AnsWn e (markR a n) ∧ Below W.heap.size W W' := by
  obtain ⟨V, C, hC, hV, hb, hg, hg2⟩ := boxWZ W a
  have HB := Lib.hid hb
  have HV := Lib.hid hV
  have HG := Lib.hid hg
  have HJ := Lib.hid hg2
  have CI := Lib.hid (fun w => wis_any n w)
  have CF := Lib.hid (fun w => wFresh0_any a h64 hR n hn w)
  obtain ⟨r1, r2, -⟩ := hR
  unfold most at r2
  obtain ⟨T, hT⟩ := Int.eq_ofNat_of_zero_le r1
  have hTb : T ≤ 4611686018427387905 := by omega
  have HT := Lib.hid hT
  rw [← hC]
  obtain ⟨E, hE⟩ : ∃ E, E = markR a n := ⟨_, rfl⟩
  rw [← hE]
  have HDE := Lib.hid hE
  clear hg hg2 hb hC hV hE r1 r2 hT
  by_cases hin : 0 ≤ n ∧ n ≤ most
  case neg =>
    have HE := Lib.hid (show E = (a, 1) by rw [HDE.out]; unfold markR; rw [if_neg hin])
    rw [decide_eq_false hin] at CI
    clear HDE CF hin
    go_enter Try.func15, Try.ntmps15
    go_upto_region 1 with (fail)
    rw [← HV.out]
    go_wp2_with fail
    refine (CI.out _).mono ?_
    rintro e w1 ⟨rfl, hw⟩
    obtain rfl := hw.symm
    go_wp2_with (first | (refine loadW _ (.tmp 2) W.heap.size a HG.out rfl rfl rfl ?_) | (refine storeW _ (.tmp 4) (.tmp 11) (W.heap.size + 1) a _ HJ.out rfl rfl rfl rfl rfl ?_))
    refine bodyPost_ret (retW rfl _ _ (W.heap.size + 1) a _ rfl rfl (wn_end (m := 1) rfl HB.out HJ.out).1) rfl ?_
    rw [HE.out]
    exact ⟨rfl, (wn_end (m := 1) rfl HB.out HJ.out).2.2⟩
  rw [decide_eq_true hin] at CI
  by_cases hf : ¬ FreshW a n
  case pos =>
    have HE := Lib.hid (show E = (a, 6) by rw [HDE.out]; unfold markR; rw [if_pos hin, if_neg hf])
    rw [decide_eq_false hf] at CF
    clear HDE hf hin
    go_enter Try.func15, Try.ntmps15
    go_upto_region 1 with (fail)
    rw [← HV.out]
    go_wp2_with fail
    refine (CI.out _).mono ?_
    rintro e w1 ⟨rfl, hw⟩
    obtain rfl := hw.symm
    go_wp2_with (refine loadW _ (.tmp 2) W.heap.size a HG.out rfl rfl rfl ?_)
    refine (CF.out _).mono ?_
    rintro e w1 ⟨rfl, hb⟩
    have HB1 := Lib.hid (belG HB.out hb HB.out.size)
    have HG1 := Lib.hid (HG.out.old hb (Nat.le_refl _))
    have HJ1 := Lib.hid (HJ.out.old hb (Nat.le_refl _))
    clear hb HB HG HJ CF
    go_wp2_with (first | (refine loadW _ (.tmp 2) W.heap.size a HG1.out rfl rfl rfl ?_) | (refine storeW _ (.tmp 4) (.tmp 16) (W.heap.size + 1) a _ HJ1.out rfl rfl rfl rfl rfl ?_))
    refine bodyPost_ret (retW rfl _ _ (W.heap.size + 1) a _ rfl rfl (wn_end (m := 6) rfl HB1.out HJ1.out).1) rfl ?_
    rw [HE.out]
    exact ⟨rfl, (wn_end (m := 6) rfl HB1.out HJ1.out).2.2⟩
  have hf : FreshW a n := Classical.byContradiction hf
  have HE := Lib.hid (show E = (markW a n, 0) by rw [HDE.out]; unfold markR; rw [if_pos hin, if_pos hf])
  rw [decide_eq_true hf] at CF
  obtain ⟨N, rfl⟩ := Int.eq_ofNat_of_zero_le hin.1
  have hNb : N ≤ 4611686018427387904 := by have := hin.2; unfold most at this; omega
  obtain ⟨p, hp⟩ : ∃ p, p = N % 1024 := ⟨_, rfl⟩
  have CP := Lib.hid (fun w => wplace_any (N : Int) hn p (by omega) w)
  have hpb : p < 1024 := by omega
  have HUP := Lib.hid (fun (x : Wn) (h1 : T ≤ N) (h2 : ClrW a T (N - T) x) => mark_up HT.out h64 h1 h2 hp)
  have HIN := Lib.hid (fun (h1 : ¬ T ≤ N) => mark_in HT.out h64 h1 hp)
  have CC := Lib.hid (fun w => wcleared_any a h64 T (N - T) HT.out hTb (by omega) w)
  have H64 := Lib.hid h64
  obtain ⟨j, hj⟩ : ∃ j, j = p / 64 := ⟨_, rfl⟩
  obtain ⟨r, hr⟩ : ∃ r, r = p % 64 := ⟨_, rfl⟩
  have hj16 : j < 16 := by omega
  have j1 : (j : Int) < 16 := by omega
  have j0 : (0 : Int) ≤ (j : Int) := by omega
  obtain ⟨y, hy⟩ : ∃ y, y = 2 ^ r := ⟨_, rfl⟩
  have hyb : y < 18446744073709551616 := by rw [hy]; exact pow2_lt (by omega)
  rw [← hj, ← hr, ← hy] at CP HUP HIN
  clear HDE hf hin hp hj hr hy h64 hn
  go_enter Try.func15, Try.ntmps15
  go_upto_region 1 with (fail)
  rw [← HV.out]
  clear HV
  go_wp2_with fail
  refine (CI.out _).mono ?_
  rintro e w1 ⟨rfl, hw⟩
  obtain rfl := hw.symm
  go_wp2_with (refine loadW _ (.tmp 2) W.heap.size a HG.out rfl rfl rfl ?_)
  refine (CF.out _).mono ?_
  rintro e w1 ⟨rfl, hb⟩
  have HB1 := Lib.hid (belG HB.out hb HB.out.size)
  have HG1 := Lib.hid (HG.out.old hb (Nat.le_refl _))
  have HJ1 := Lib.hid (HJ.out.old hb (Nat.le_refl _))
  clear hb HB HG HJ CF CI
  have x0 : w1.cell? ⟨W.heap.size, 0, none⟩ = some (.int .i64 (T : Int)) := by rw [← HT.out]; exact HG1.out.cell (winC_top a)
  by_cases hge : T ≤ N
  · have hgi : (T : Int) ≤ (N : Int) := by omega
    obtain ⟨c, hc⟩ : ∃ c, c = N - T := ⟨_, rfl⟩
    have hci : (N : Int) - (T : Int) = (c : Int) := by omega
    have HUX := Lib.hid (fun (x : Wn) (h2 : ClrW a T c x) => HUP.out x hge (by rw [← hc]; exact h2))
    rw [← hc] at CC
    clear HUP HIN hc hge
    go_wp2_with (refine loadW _ (.tmp 2) W.heap.size a HG1.out rfl rfl rfl ?_)
    refine (CC.out _).mono ?_
    rintro e w2 ⟨⟨x, rfl, hcl⟩, hb⟩
    have HB2 := Lib.hid (belG HB1.out hb HB1.out.size)
    have HG2 := Lib.hid (HG1.out.old hb (Nat.le_refl _))
    have HJ2 := Lib.hid (HJ1.out.old hb (Nat.le_refl _))
    have HFI := Lib.hid (HUX.out x hcl)
    have hxb := hcl.1 j hj16
    clear hb hcl HUX HB1 HG1 HJ1 CC x0
    go_upto_region 7 with (refine storeW _ (.tmp 2) (.tmp 26) W.heap.size x _ HG2.out rfl rfl rfl rfl rfl ?_)
    obtain ⟨V3, hV3⟩ : ∃ V, V = w2.setRow W.heap.size (winC x) := ⟨_, rfl⟩
    have HB3 := Lib.hid (show Below W.heap.size W V3 by rw [hV3]; exact Below.setRowG HB2.out (Nat.le_refl _) _)
    have HG3 := Lib.hid (show BoxW V3 W.heap.size x from by rw [hV3]; exact setRow_heap _ _ _ _ _ _ HG2.out)
    have HJ3 := Lib.hid (show BoxW V3 (W.heap.size + 1) wn0 from by rw [hV3]; exact (setRow_other _ _ _ _ (by omega)).trans HJ2.out)
    rw [← hV3]
    clear hV3 HB2 HG2 HJ2
    have x0 := HG3.out.cell (winC_top x)
    have f0 := HG3.out.thaw 0
    obtain ⟨M, hM⟩ : ∃ M, M = N + 1 := ⟨_, rfl⟩
    have hMi : (N : Int) + 1 = (M : Int) := by omega
    rw [← hM] at HFI
    clear hM
    go_upto_region 8 with (fail)
    obtain ⟨V4, hV4⟩ : ∃ V, V = V3.setCell ⟨W.heap.size, 0, none⟩ (.int .i64 (M : Int)) := ⟨_, rfl⟩
    have HB4 := Lib.hid (show Below W.heap.size W V4 by rw [hV4]; exact HB3.out.setCell (p := ⟨W.heap.size, 0, none⟩) (Nat.le_refl _) _)
    have HG4 := Lib.hid (show BoxW V4 W.heap.size ⟨M, x.b⟩ from by rw [hV4]; exact HG3.out.set (winC_setTop x M))
    have HJ4 := Lib.hid (show BoxW V4 (W.heap.size + 1) wn0 from by rw [hV4]; exact (Below.heap_setCell V3 ⟨W.heap.size, 0, none⟩ _ (W.heap.size + 1) (show W.heap.size + 1 ≠ W.heap.size by omega)).trans HJ3.out)
    rw [← hV4]
    clear hV4 HB3 HG3 HJ3 x0 f0
    have x9 := HG4.out.cell (winC_b ⟨M, x.b⟩ hj16)
    have f1 := HG4.out.thaw (1 + j)
    obtain ⟨u, hu⟩ : ∃ u, u = x.b j := ⟨_, rfl⟩
    have x1 : V4.cell? ⟨W.heap.size, 1 + j, none⟩ = some (.int .u64 (u : Int)) := by rw [hu]; exact x9
    rw [← hu] at hxb HFI
    have hor := u64_or_nat u y hxb hyb
    obtain ⟨z, hz⟩ : ∃ z, z = u ||| y := ⟨_, rfl⟩
    rw [← hz] at hor HFI
    clear hu hz x9
    go_wp2_with fail
    refine (CP.out _).mono ?_
    rintro e w5 ⟨rfl, hw⟩
    obtain rfl := hw.symm
    clear CP
    go_upto_region 10 with (fail)
    obtain ⟨V6, hV6⟩ : ∃ V6, V6 = V4.setCell ⟨W.heap.size, 1 + j, none⟩ (.int .u64 (z : Int)) := ⟨_, rfl⟩
    have HB6 := Lib.hid (show Below W.heap.size W V6 by rw [hV6]; exact HB4.out.setCell (p := ⟨W.heap.size, 1 + j, none⟩) (Nat.le_refl _) _)
    obtain ⟨R, hR⟩ : ∃ R : Wn, R = ⟨M, updN x.b j z⟩ := ⟨_, rfl⟩
    rw [← hR] at HFI
    have HG6 := Lib.hid (show BoxW V6 W.heap.size R from by rw [hV6, hR]; exact HG4.out.set (winC_setB ⟨M, x.b⟩ hj16 z))
    have HJ6 := Lib.hid (show BoxW V6 (W.heap.size + 1) wn0 from by rw [hV6]; exact (Below.heap_setCell V4 ⟨W.heap.size, 1 + j, none⟩ _ (W.heap.size + 1) (show W.heap.size + 1 ≠ W.heap.size by omega)).trans HJ4.out)
    rw [← hV6]
    clear hV6 hR HB4 HG4 HJ4 x1 f1
    go_wp2_with (first | (refine loadW _ (.tmp 2) W.heap.size R HG6.out rfl rfl rfl ?_) | (refine storeW _ (.tmp 4) (.tmp 43) (W.heap.size + 1) R _ HJ6.out rfl rfl rfl rfl rfl ?_))
    refine bodyPost_ret (retW rfl _ _ (W.heap.size + 1) R _ rfl rfl (wn_end (m := 0) rfl HB6.out HJ6.out).1) rfl ?_
    rw [HE.out]
    refine ⟨?_, (wn_end (m := 0) rfl HB6.out HJ6.out).2.2⟩
    show _ = _
    rw [← HFI.out]
    rfl
  · have hgi : ¬ (T : Int) ≤ (N : Int) := by omega
    have HFI := Lib.hid (HIN.out hge)
    have hxb := H64.out j hj16
    have HG4 := Lib.hid (show BoxW w1 W.heap.size ⟨T, a.b⟩ from by rw [← HT.out]; exact HG1.out)
    clear HUP HIN CC hge
    go_upto_region 8 with (fail)
    clear x0 HG1
    have x9 := HG4.out.cell (winC_b ⟨T, a.b⟩ hj16)
    have f1 := HG4.out.thaw (1 + j)
    obtain ⟨u, hu⟩ : ∃ u, u = a.b j := ⟨_, rfl⟩
    have x1 : w1.cell? ⟨W.heap.size, 1 + j, none⟩ = some (.int .u64 (u : Int)) := by rw [hu]; exact x9
    rw [← hu] at hxb HFI
    have hor := u64_or_nat u y hxb hyb
    obtain ⟨z, hz⟩ : ∃ z, z = u ||| y := ⟨_, rfl⟩
    rw [← hz] at hor HFI
    clear hu hz x9
    go_wp2_with fail
    refine (CP.out _).mono ?_
    rintro e w5 ⟨rfl, hw⟩
    obtain rfl := hw.symm
    clear CP
    go_upto_region 10 with (fail)
    obtain ⟨V6, hV6⟩ : ∃ V6, V6 = w1.setCell ⟨W.heap.size, 1 + j, none⟩ (.int .u64 (z : Int)) := ⟨_, rfl⟩
    have HB6 := Lib.hid (show Below W.heap.size W V6 by rw [hV6]; exact HB1.out.setCell (p := ⟨W.heap.size, 1 + j, none⟩) (Nat.le_refl _) _)
    obtain ⟨R, hR⟩ : ∃ R : Wn, R = ⟨T, updN a.b j z⟩ := ⟨_, rfl⟩
    rw [← hR] at HFI
    have HG6 := Lib.hid (show BoxW V6 W.heap.size R from by rw [hV6, hR]; exact HG4.out.set (winC_setB ⟨T, a.b⟩ hj16 z))
    have HJ6 := Lib.hid (show BoxW V6 (W.heap.size + 1) wn0 from by rw [hV6]; exact (Below.heap_setCell w1 ⟨W.heap.size, 1 + j, none⟩ _ (W.heap.size + 1) (show W.heap.size + 1 ≠ W.heap.size by omega)).trans HJ1.out)
    rw [← hV6]
    clear hV6 hR HB1 HG4 HJ1 x1 f1
    go_wp2_with (first | (refine loadW _ (.tmp 2) W.heap.size R HG6.out rfl rfl rfl ?_) | (refine storeW _ (.tmp 4) (.tmp 43) (W.heap.size + 1) R _ HJ6.out rfl rfl rfl rfl rfl ?_))
    refine bodyPost_ret (retW rfl _ _ (W.heap.size + 1) R _ rfl rfl (wn_end (m := 0) rfl HB6.out HJ6.out).1) rfl ?_
    rw [HE.out]
    refine ⟨?_, (wn_end (m := 0) rfl HB6.out HJ6.out).2.2⟩
    show _ = _
    rw [← HFI.out]
    rfl
end Go.Proofs.Ytdnfggjklblpnaa
/- Package win: what each call answers. -/

namespace Go.Proofs.Ytdnfggjklblpnaa
open Go.RowKit

set_option maxRecDepth 100000 in
theorem wRight_any (a : Wn) (h64 : W64 a) (ht : B64w a.top) (W : World) : Calls Try.prog 12 #[.agg (winC a)] W fun e W' => e = .returned (.bool (decide (RightW a))) ∧ Below W.heap.size W W' := wRight0_any a h64 ht W
set_option maxRecDepth 100000 in
theorem wFresh_any (a : Wn) (h64 : W64 a) (hR : RightW a) (n : Int) (hn : B64w n) (W : World) : Calls Try.prog 13 #[.agg (winC a), .int .i64 n] W fun e W' => e = .returned (.bool (decide (FreshW a n))) ∧ Below W.heap.size W W' := wFresh0_any a h64 hR n hn W
set_option maxRecDepth 100000 in
theorem wMark_any (a : Wn) (h64 : W64 a) (hR : RightW a) (n : Int) (hn : B64w n) (W : World) : Calls Try.prog 15 #[.agg (winC a), .int .i64 n] W fun e W' => AnsWn e (markR a n) ∧ Below W.heap.size W W' := wMark0_any a h64 hR n hn W
set_option maxRecDepth 100000 in
theorem fresh0 {n : Int} : FreshW wn0 n ↔ 0 ≤ n ∧ n ≤ most := by
  unfold FreshW wn0
  exact ⟨fun h => ⟨h.1, h.2.1⟩, fun h => ⟨h.1, h.2, by show (0 : Int) - 1024 ≤ n; omega, .inl h.1⟩⟩
set_option maxRecDepth 100000 in
theorem right0 : RightW wn0 := ⟨by show (0 : Int) ≤ 0; omega, by show (0 : Int) ≤ _; unfold most; omega, fun p _ _ => by show (0 : Nat).testBit _ = false; simp, .inl rfl⟩
set_option maxRecDepth 100000 in
theorem w640 : W64 wn0 := fun _ _ => by show (0 : Nat) < _; omega
set_option maxRecDepth 100000 in
theorem markR_ok {a : Wn} {n : Int} (h : FreshW a n) : markR a n = (markW a n, 0) := by unfold markR; rw [if_pos ⟨h.1, h.2.1⟩, if_pos h]
set_option maxRecDepth 100000 in
theorem markR_old {a : Wn} {n : Int} (h1 : 0 ≤ n ∧ n ≤ most) (h : ¬ FreshW a n) : markR a n = (a, 6) := by unfold markR; rw [if_pos h1, if_neg h]
set_option maxRecDepth 100000 in
theorem markR_arg {a : Wn} {n : Int} (h : ¬ (0 ≤ n ∧ n ≤ most)) : markR a n = (a, 1) := by unfold markR; rw [if_neg h]
end Go.Proofs.Ytdnfggjklblpnaa
/- shown: the document's example (win). -/

namespace Go.Proofs.Ytdnfggjklblpnaa
open Go.RowKit

def k10a : Wn := markW wn0 5
def k10b : Wn := markW k10a 3
def k10c : Wn := markW k10b 2000
set_option maxRecDepth 100000 in
theorem f10a : FreshW wn0 5 := fresh0.2 ⟨by omega, by unfold most; omega⟩
set_option maxRecDepth 100000 in
theorem f10b : FreshW k10a 3 := (mark_fresh f10a 3).2 ⟨fresh0.2 ⟨by omega, by unfold most; omega⟩, by omega, by omega⟩
set_option maxRecDepth 100000 in
theorem r10a : RightW k10a := mark_right right0 f10a
set_option maxRecDepth 100000 in
theorem r10b : RightW k10b := mark_right r10a f10b
set_option maxRecDepth 100000 in
theorem f10x {n : Int} (h : 0 ≤ n ∧ n ≤ 4611686018427387904) (h5 : n ≠ 5) (h3 : n ≠ 3) : FreshW k10b n := (mark_fresh f10b n).2 ⟨(mark_fresh f10a n).2 ⟨fresh0.2 ⟨h.1, by unfold most; omega⟩, h5, by omega⟩, h3, by omega⟩
set_option maxRecDepth 100000 in
theorem f10c : FreshW k10b 2000 := f10x (by omega) (by omega) (by omega)
set_option maxRecDepth 100000 in
theorem r10c : RightW k10c := mark_right r10b f10c
set_option maxRecDepth 100000 in
theorem n10c : ¬ FreshW k10b 3 := fun h => ((mark_fresh f10b 3).1 h).2.1 rfl
set_option maxRecDepth 100000 in
theorem n10d : ¬ FreshW k10b 5 := fun h => ((mark_fresh f10a 5).1 ((mark_fresh f10b 5).1 h).1).2.1 rfl
set_option maxRecDepth 100000 in
theorem n10e : ¬ FreshW k10c 976 := fun h => by have := ((mark_fresh f10c 976).1 h).2.2; omega
set_option maxRecDepth 100000 in
theorem y10e : FreshW k10c 977 := (mark_fresh f10c 977).2 ⟨f10x (by omega) (by omega) (by omega), by omega, by omega⟩
def wn1 : Wn := ⟨1, fun _ => 0⟩
set_option maxRecDepth 100000 in
theorem n10r : ¬ RightW wn1 := fun h => by
  rcases h.2.2.2 with h | h
  · exact absurd h (by decide)
  · have e : hasW wn1 ((wn1.top - 1).toNat % 1024) = false := by show (0 : Nat).testBit _ = false; simp
    rw [e] at h; cases h
set_option maxRecDepth 100000 in
theorem t10c : k10c.top = 2001 := by decide
set_option maxRecDepth 100000 in
theorem b64w_lit {n : Int} (h : (decide (-9223372036854775808 ≤ n) && decide (n ≤ 9223372036854775807)) = true) : B64w n := by
  rw [Bool.and_eq_true, decide_eq_true_eq, decide_eq_true_eq] at h
  exact h
set_option maxRecDepth 100000 in
theorem ex10_a (W : World) : Calls Try.prog 15 #[.agg #[.int .i64 0, .int .u64 0, .int .u64 0, .int .u64 0, .int .u64 0, .int .u64 0, .int .u64 0, .int .u64 0, .int .u64 0, .int .u64 0, .int .u64 0, .int .u64 0, .int .u64 0, .int .u64 0, .int .u64 0, .int .u64 0, .int .u64 0], .int .i64 5] W fun e W' => e = .returned (.tuple #[.agg (winC k10a), .int .i64 0]) ∧ Below W.heap.size W W' := by
  have h := wMark_any wn0 w640 right0 5 (b64w_lit rfl) W
  unfold AnsWn at h
  rw [markR_ok f10a] at h
  exact h
set_option maxRecDepth 100000 in
theorem ex10_b (W : World) : Calls Try.prog 15 #[.agg (winC k10a), .int .i64 3] W fun e W' => e = .returned (.tuple #[.agg (winC k10b), .int .i64 0]) ∧ Below W.heap.size W W' := by
  have h := wMark_any k10a (markW_64 _ _) r10a 3 (b64w_lit rfl) W
  unfold AnsWn at h
  rw [markR_ok f10b] at h
  exact h
set_option maxRecDepth 100000 in
theorem ex10_c (W : World) : Calls Try.prog 15 #[.agg (winC k10b), .int .i64 3] W fun e W' => e = .returned (.tuple #[.agg (winC k10b), .int .i64 6]) ∧ Below W.heap.size W W' := by
  have h := wMark_any k10b (markW_64 _ _) r10b 3 (b64w_lit rfl) W
  unfold AnsWn at h
  rw [markR_old ⟨by omega, by unfold most; omega⟩ n10c] at h
  exact h
set_option maxRecDepth 100000 in
theorem ex10_d (W : World) : Calls Try.prog 15 #[.agg (winC k10b), .int .i64 2000] W fun e W' => e = .returned (.tuple #[.agg (winC k10c), .int .i64 0]) ∧ Below W.heap.size W W' := by
  have h := wMark_any k10b (markW_64 _ _) r10b 2000 (b64w_lit rfl) W
  unfold AnsWn at h
  rw [markR_ok f10c] at h
  exact h
set_option maxRecDepth 100000 in
theorem ex10_e (W : World) : Calls Try.prog 13 #[.agg (winC k10b), .int .i64 4] W fun e W' => e = .returned (.bool true) ∧ Below W.heap.size W W' := by
  have h := wFresh_any k10b (markW_64 _ _) r10b 4 (b64w_lit rfl) W
  rw [decide_eq_true (f10x (by omega) (by omega) (by omega))] at h
  exact h
set_option maxRecDepth 100000 in
theorem ex10_f (W : World) : Calls Try.prog 13 #[.agg (winC k10b), .int .i64 3] W fun e W' => e = .returned (.bool false) ∧ Below W.heap.size W W' := by
  have h := wFresh_any k10b (markW_64 _ _) r10b 3 (b64w_lit rfl) W
  rw [decide_eq_false (n10c)] at h
  exact h
set_option maxRecDepth 100000 in
theorem ex10_g (W : World) : Calls Try.prog 13 #[.agg (winC k10b), .int .i64 5] W fun e W' => e = .returned (.bool false) ∧ Below W.heap.size W W' := by
  have h := wFresh_any k10b (markW_64 _ _) r10b 5 (b64w_lit rfl) W
  rw [decide_eq_false (n10d)] at h
  exact h
set_option maxRecDepth 100000 in
theorem ex10_h (W : World) : Calls Try.prog 13 #[.agg (winC k10c), .int .i64 977] W fun e W' => e = .returned (.bool true) ∧ Below W.heap.size W W' := by
  have h := wFresh_any k10c (markW_64 _ _) r10c 977 (b64w_lit rfl) W
  rw [decide_eq_true (y10e)] at h
  exact h
set_option maxRecDepth 100000 in
theorem ex10_i (W : World) : Calls Try.prog 13 #[.agg (winC k10c), .int .i64 976] W fun e W' => e = .returned (.bool false) ∧ Below W.heap.size W W' := by
  have h := wFresh_any k10c (markW_64 _ _) r10c 976 (b64w_lit rfl) W
  rw [decide_eq_false (n10e)] at h
  exact h
set_option maxRecDepth 100000 in
theorem ex10_j (W : World) : Calls Try.prog 12 #[.agg (winC k10c)] W fun e W' => e = .returned (.bool true) ∧ Below W.heap.size W W' := by
  have h := wRight_any k10c (markW_64 _ _) (by rw [t10c]; exact b64w_lit rfl) W
  rw [decide_eq_true r10c] at h
  exact h
set_option maxRecDepth 100000 in
theorem ex10_k (W : World) : Calls Try.prog 12 #[.agg #[.int .i64 1, .int .u64 0, .int .u64 0, .int .u64 0, .int .u64 0, .int .u64 0, .int .u64 0, .int .u64 0, .int .u64 0, .int .u64 0, .int .u64 0, .int .u64 0, .int .u64 0, .int .u64 0, .int .u64 0, .int .u64 0, .int .u64 0]] W fun e W' => e = .returned (.bool false) ∧ Below W.heap.size W W' := by
  have h := wRight_any wn1 (fun _ _ => by show (0 : Nat) < _; omega) (b64w_lit rfl) W
  rw [decide_eq_false n10r] at h
  exact h
set_option maxRecDepth 100000 in
set_option maxHeartbeats 4000000 in
theorem shown10_any (W : World) :
    Calls Try.prog 10 #[] W fun e W' => e = .returned (.bool true) ∧ Below W.heap.size W W' := by
  have HB := Lib.hid (Below.refl W.heap.size W)
  have Ea := Lib.hid ex10_a
  have Eb := Lib.hid ex10_b
  have Ec := Lib.hid ex10_c
  have Ed := Lib.hid ex10_d
  have Ee := Lib.hid ex10_e
  have Ef := Lib.hid ex10_f
  have Eg := Lib.hid ex10_g
  have Eh := Lib.hid ex10_h
  have Ei := Lib.hid ex10_i
  have Ej := Lib.hid ex10_j
  have Ek := Lib.hid ex10_k
  have T0 := Lib.hid t10c
  generalize k10a = a at *
  generalize k10b = b at *
  generalize k10c = c at *
  go_enter Try.func10, Try.ntmps10
  go_wp2_with fail
  refine (Ea.out _).mono ?_
  rintro e w1 ⟨rfl, hb⟩
  have nHB := Lib.hid (belG HB.out hb HB.out.size)
  clear hb
  clear HB 
  have HB := nHB
  clear nHB 
  have LB := Lib.hid HB.out.size
  obtain ⟨V1, hV1⟩ : ∃ V, V = w1.alloc (.cells (winC a) 25) := ⟨_, rfl⟩
  have ha := (Below.refl w1.heap.size w1).alloc (Nat.le_refl _) (.cells (winC a) 25)
  have hg := heap_alloc_new w1 (.cells (winC a) 25)
  have nHB := Lib.hid (HB.out.alloc HB.out.size (.cells (winC a) 25))
  rw [← hV1] at ha hg nHB
  obtain ⟨g1, hg1⟩ : ∃ g, g = w1.heap.size := ⟨_, rfl⟩
  rw [← hg1] at hg
  have HXG1 := Lib.hid hg1
  have G1 := Lib.hid hg
  have HV := Lib.hid hV1
  clear ha hg hV1 hg1
  clear HB 
  have HB := nHB
  clear nHB 
  have LEG1 := Lib.hid (show W.heap.size ≤ g1 from by rw [HXG1.out]; exact LB.out)
  clear LB
  go_upto_region 2 with (refine storeW _ (.tmp 1) (.tmp 11) _ a _ (heap_alloc_new _ _) rfl rfl rfl rfl rfl ?_; rw [setRowG_fold])
  rw [← HV.out]
  (try rw [← HXG1.out])
  clear HV HXG1
  go_wp2_with (first | (refine loadW _ (.tmp 1) g1 a G1.out rfl rfl rfl ?_))
  refine (Eb.out _).mono ?_
  rintro e w2 ⟨rfl, hb⟩
  have nHB := Lib.hid (belG HB.out hb HB.out.size)
  have nG1 := Lib.hid (oldG G1.out hb (Nat.le_refl _))
  clear hb
  clear HB G1
  have HB := nHB
  have G1 := nG1
  clear nHB nG1
  go_upto_region 3 with (first | (refine loadW _ (.tmp 1) g1 a G1.out rfl rfl rfl ?_) | (refine storeW _ (.tmp 1) (.tmp 16) g1 b _ G1.out rfl rfl rfl rfl rfl ?_))
  obtain ⟨V3, hV3⟩ : ∃ V, V = w2.setRow g1 (winC b) := ⟨_, rfl⟩
  have nHB := Lib.hid (show Below W.heap.size W V3 by rw [hV3]; exact Below.setRowG HB.out LEG1.out _)
  have nG1 := Lib.hid (show BoxW V3 g1 b from by rw [hV3]; exact setRow_heap _ _ _ _ _ _ G1.out)
  rw [← hV3]
  clear hV3
  clear HB G1
  have HB := nHB
  have G1 := nG1
  clear nHB nG1
  go_wp2_with (first | (refine loadW _ (.tmp 1) g1 b G1.out rfl rfl rfl ?_))
  refine (Ec.out _).mono ?_
  rintro e w4 ⟨rfl, hb⟩
  have nHB := Lib.hid (belG HB.out hb HB.out.size)
  have nG1 := Lib.hid (oldG G1.out hb (Nat.le_refl _))
  clear hb
  clear HB G1
  have HB := nHB
  have G1 := nG1
  clear nHB nG1
  have LB := Lib.hid HB.out.size
  have LTG1 := Lib.hid (show g1 < w4.heap.size from (Array.getElem?_eq_some_iff.1 G1.out).1)
  obtain ⟨V4, hV4⟩ : ∃ V, V = w4.alloc (.cells (winC b) 25) := ⟨_, rfl⟩
  have ha := (Below.refl w4.heap.size w4).alloc (Nat.le_refl _) (.cells (winC b) 25)
  have hg := heap_alloc_new w4 (.cells (winC b) 25)
  have nHB := Lib.hid (HB.out.alloc HB.out.size (.cells (winC b) 25))
  rw [← hV4] at ha hg nHB
  have nG1 := Lib.hid (oldG G1.out ha (Nat.le_refl _))
  obtain ⟨g4, hg4⟩ : ∃ g, g = w4.heap.size := ⟨_, rfl⟩
  rw [← hg4] at hg
  have HXG4 := Lib.hid hg4
  have G4 := Lib.hid hg
  have HV := Lib.hid hV4
  clear ha hg hV4 hg4
  clear HB G1
  have HB := nHB
  have G1 := nG1
  clear nHB nG1
  have LEG4 := Lib.hid (show W.heap.size ≤ g4 from by rw [HXG4.out]; exact LB.out)
  have NEG1G4 := Lib.hid (show g1 ≠ g4 from by have h1 := LTG1.out; rw [HXG4.out]; omega)
  have NEG4G1 := Lib.hid (NEG1G4.out.symm)
  clear LB LTG1
  go_upto_region 4 with (refine storeW _ (.tmp 4) (.tmp 21) _ b _ (heap_alloc_new _ _) rfl rfl rfl rfl rfl ?_; rw [setRowG_fold])
  rw [← HV.out]
  (try rw [← HXG4.out])
  clear HV HXG4
  go_wp2_with (first | (refine loadW _ (.tmp 1) g1 b G1.out rfl rfl rfl ?_) | (refine loadW _ (.tmp 4) g4 b G4.out rfl rfl rfl ?_))
  refine (Ed.out _).mono ?_
  rintro e w5 ⟨rfl, hb⟩
  have nHB := Lib.hid (belG HB.out hb HB.out.size)
  have nG1 := Lib.hid (oldG G1.out hb (Nat.le_refl _))
  have nG4 := Lib.hid (oldG G4.out hb (Nat.le_refl _))
  clear hb
  clear HB G1 G4
  have HB := nHB
  have G1 := nG1
  have G4 := nG4
  clear nHB nG1 nG4
  have LB := Lib.hid HB.out.size
  have LTG1 := Lib.hid (show g1 < w5.heap.size from (Array.getElem?_eq_some_iff.1 G1.out).1)
  have LTG4 := Lib.hid (show g4 < w5.heap.size from (Array.getElem?_eq_some_iff.1 G4.out).1)
  obtain ⟨V5, hV5⟩ : ∃ V, V = w5.alloc (.cells (winC c) 25) := ⟨_, rfl⟩
  have ha := (Below.refl w5.heap.size w5).alloc (Nat.le_refl _) (.cells (winC c) 25)
  have hg := heap_alloc_new w5 (.cells (winC c) 25)
  have nHB := Lib.hid (HB.out.alloc HB.out.size (.cells (winC c) 25))
  rw [← hV5] at ha hg nHB
  have nG1 := Lib.hid (oldG G1.out ha (Nat.le_refl _))
  have nG4 := Lib.hid (oldG G4.out ha (Nat.le_refl _))
  obtain ⟨g6, hg6⟩ : ∃ g, g = w5.heap.size := ⟨_, rfl⟩
  rw [← hg6] at hg
  have HXG6 := Lib.hid hg6
  have G6 := Lib.hid hg
  have HV := Lib.hid hV5
  clear ha hg hV5 hg6
  clear HB G1 G4
  have HB := nHB
  have G1 := nG1
  have G4 := nG4
  clear nHB nG1 nG4
  have LEG6 := Lib.hid (show W.heap.size ≤ g6 from by rw [HXG6.out]; exact LB.out)
  have NEG1G6 := Lib.hid (show g1 ≠ g6 from by have h1 := LTG1.out; rw [HXG6.out]; omega)
  have NEG6G1 := Lib.hid (NEG1G6.out.symm)
  have NEG4G6 := Lib.hid (show g4 ≠ g6 from by have h1 := LTG4.out; rw [HXG6.out]; omega)
  have NEG6G4 := Lib.hid (NEG4G6.out.symm)
  clear LB LTG1 LTG4
  go_upto_region 5 with (refine storeW _ (.tmp 6) (.tmp 26) _ c _ (heap_alloc_new _ _) rfl rfl rfl rfl rfl ?_; rw [setRowG_fold])
  rw [← HV.out]
  (try rw [← HXG6.out])
  clear HV HXG6
  go_wp2_with (first | (refine loadW _ (.tmp 1) g1 b G1.out rfl rfl rfl ?_) | (refine loadW _ (.tmp 4) g4 b G4.out rfl rfl rfl ?_) | (refine loadW _ (.tmp 6) g6 c G6.out rfl rfl rfl ?_))
  refine (Ee.out _).mono ?_
  rintro e w6 ⟨rfl, hb⟩
  have nHB := Lib.hid (belG HB.out hb HB.out.size)
  have nG1 := Lib.hid (oldG G1.out hb (Nat.le_refl _))
  have nG4 := Lib.hid (oldG G4.out hb (Nat.le_refl _))
  have nG6 := Lib.hid (oldG G6.out hb (Nat.le_refl _))
  clear hb
  clear HB G1 G4 G6
  have HB := nHB
  have G1 := nG1
  have G4 := nG4
  have G6 := nG6
  clear nHB nG1 nG4 nG6
  go_wp2_with (first | (refine loadW _ (.tmp 1) g1 b G1.out rfl rfl rfl ?_) | (refine loadW _ (.tmp 4) g4 b G4.out rfl rfl rfl ?_) | (refine loadW _ (.tmp 6) g6 c G6.out rfl rfl rfl ?_))
  refine (Ef.out _).mono ?_
  rintro e w7 ⟨rfl, hb⟩
  have nHB := Lib.hid (belG HB.out hb HB.out.size)
  have nG1 := Lib.hid (oldG G1.out hb (Nat.le_refl _))
  have nG4 := Lib.hid (oldG G4.out hb (Nat.le_refl _))
  have nG6 := Lib.hid (oldG G6.out hb (Nat.le_refl _))
  clear hb
  clear HB G1 G4 G6
  have HB := nHB
  have G1 := nG1
  have G4 := nG4
  have G6 := nG6
  clear nHB nG1 nG4 nG6
  go_wp2_with (first | (refine loadW _ (.tmp 1) g1 b G1.out rfl rfl rfl ?_) | (refine loadW _ (.tmp 4) g4 b G4.out rfl rfl rfl ?_) | (refine loadW _ (.tmp 6) g6 c G6.out rfl rfl rfl ?_))
  refine (Eg.out _).mono ?_
  rintro e w8 ⟨rfl, hb⟩
  have nHB := Lib.hid (belG HB.out hb HB.out.size)
  have nG1 := Lib.hid (oldG G1.out hb (Nat.le_refl _))
  have nG4 := Lib.hid (oldG G4.out hb (Nat.le_refl _))
  have nG6 := Lib.hid (oldG G6.out hb (Nat.le_refl _))
  clear hb
  clear HB G1 G4 G6
  have HB := nHB
  have G1 := nG1
  have G4 := nG4
  have G6 := nG6
  clear nHB nG1 nG4 nG6
  have x0 := BoxW.cell G6.out (winC_top c)
  rw [T0.out] at x0
  go_wp2_with (first | (refine loadW _ (.tmp 1) g1 b G1.out rfl rfl rfl ?_) | (refine loadW _ (.tmp 4) g4 b G4.out rfl rfl rfl ?_) | (refine loadW _ (.tmp 6) g6 c G6.out rfl rfl rfl ?_))
  clear x0
  refine (Eh.out _).mono ?_
  rintro e w9 ⟨rfl, hb⟩
  have nHB := Lib.hid (belG HB.out hb HB.out.size)
  have nG1 := Lib.hid (oldG G1.out hb (Nat.le_refl _))
  have nG4 := Lib.hid (oldG G4.out hb (Nat.le_refl _))
  have nG6 := Lib.hid (oldG G6.out hb (Nat.le_refl _))
  clear hb
  clear HB G1 G4 G6
  have HB := nHB
  have G1 := nG1
  have G4 := nG4
  have G6 := nG6
  clear nHB nG1 nG4 nG6
  go_wp2_with (first | (refine loadW _ (.tmp 1) g1 b G1.out rfl rfl rfl ?_) | (refine loadW _ (.tmp 4) g4 b G4.out rfl rfl rfl ?_) | (refine loadW _ (.tmp 6) g6 c G6.out rfl rfl rfl ?_))
  refine (Ei.out _).mono ?_
  rintro e w10 ⟨rfl, hb⟩
  have nHB := Lib.hid (belG HB.out hb HB.out.size)
  have nG1 := Lib.hid (oldG G1.out hb (Nat.le_refl _))
  have nG4 := Lib.hid (oldG G4.out hb (Nat.le_refl _))
  have nG6 := Lib.hid (oldG G6.out hb (Nat.le_refl _))
  clear hb
  clear HB G1 G4 G6
  have HB := nHB
  have G1 := nG1
  have G4 := nG4
  have G6 := nG6
  clear nHB nG1 nG4 nG6
  go_wp2_with (first | (refine loadW _ (.tmp 1) g1 b G1.out rfl rfl rfl ?_) | (refine loadW _ (.tmp 4) g4 b G4.out rfl rfl rfl ?_) | (refine loadW _ (.tmp 6) g6 c G6.out rfl rfl rfl ?_))
  refine (Ej.out _).mono ?_
  rintro e w11 ⟨rfl, hb⟩
  have nHB := Lib.hid (belG HB.out hb HB.out.size)
  have nG1 := Lib.hid (oldG G1.out hb (Nat.le_refl _))
  have nG4 := Lib.hid (oldG G4.out hb (Nat.le_refl _))
  have nG6 := Lib.hid (oldG G6.out hb (Nat.le_refl _))
  clear hb
  clear HB G1 G4 G6
  have HB := nHB
  have G1 := nG1
  have G4 := nG4
  have G6 := nG6
  clear nHB nG1 nG4 nG6
  go_wp2_with (first | (refine loadW _ (.tmp 1) g1 b G1.out rfl rfl rfl ?_) | (refine loadW _ (.tmp 4) g4 b G4.out rfl rfl rfl ?_) | (refine loadW _ (.tmp 6) g6 c G6.out rfl rfl rfl ?_))
  refine (Ek.out _).mono ?_
  rintro e w12 ⟨rfl, hb⟩
  have nHB := Lib.hid (belG HB.out hb HB.out.size)
  have nG1 := Lib.hid (oldG G1.out hb (Nat.le_refl _))
  have nG4 := Lib.hid (oldG G4.out hb (Nat.le_refl _))
  have nG6 := Lib.hid (oldG G6.out hb (Nat.le_refl _))
  clear hb
  clear HB G1 G4 G6
  have HB := nHB
  have G1 := nG1
  have G4 := nG4
  have G6 := nG6
  clear nHB nG1 nG4 nG6
  go_wp2_with (first | (refine loadW _ (.tmp 1) g1 b G1.out rfl rfl rfl ?_) | (refine loadW _ (.tmp 4) g4 b G4.out rfl rfl rfl ?_) | (refine loadW _ (.tmp 6) g6 c G6.out rfl rfl rfl ?_))
  go_ret
  exact ⟨by first | rfl | simp, HB.out⟩
end Go.Proofs.Ytdnfggjklblpnaa
