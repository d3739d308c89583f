
/- SlotGives' walk. -/
import Derived.Test.YtfppcmhhbheaiaaDoorSlS
namespace Go.Proofs.YtfppcmhhbheaiaaDoor
open Go.RowKit

set_option maxRecDepth 100000 in
set_option maxHeartbeats 4000000 in
theorem slotGives_walk (many : Int) (W : World) (hm : 0 ≤ many ∧ many ≤ 255) (hT : Ks W) :
    Calls Tryd.prog 6 #[.int .u8 many] W fun e W' => e = .returned (.bool true) ∧ Below W.heap.size W W' := by
  have HT := Lib.hid hT
  clear hT
  obtain ⟨tn, rfl⟩ := Int.eq_ofNat_of_zero_le hm.1
  have hm2 := hm.2
  obtain ⟨k, hk⟩ : ∃ k, k = tn % 40 := ⟨_, rfl⟩
  have hk40 : k < 40 := by omega
  have i4 : (tn : Int).tmod 40 = (k : Int) := by rw [Int.tmod_eq_emod_of_nonneg (by omega), hk]; push_cast; rfl
  have i5 : (tn : Int) % 40 = (k : Int) := by rw [hk]; push_cast; rfl
  have ET := Lib.hid (fun (j : Nat) (hj : j < 40) y w hT h => sTake_any y (goneS j) (-1) w hT (gone_at j (by omega)).1 (by unfold B64t; decide) h)
  have ET2 := Lib.hid (fun (j : Nat) (hj : j < 40) => gone_take j (by omega))
  have EB := Lib.hid (fun y w hT h => sBest_any y (goneS k) w hT (gone_at k (by omega)).1 h)
  rw [(gone_at k (by omega)).2.1] at EB
  have ER := Lib.hid (fun w => record13_any ((k : Int) + 1) w)
  rw [show recordS ((k : Int) + 1) = (recL ((k : Int) + 1), 0) from by unfold recordS; rw [if_pos ⟨by omega, by omega⟩]] at ER
  have HR := Lib.hid (gone_at k (by omega)).1
  have HA := Lib.hid (gone_at k (by omega)).2.2.1
  have HL := Lib.hid (recL_len ((k : Int) + 1))
  have SS := Lib.hid (fun (u v : Wkb) w h g => sameB_any u v (recL ((k : Int) + 1)) (recL ((k : Int) + 1)) w h g)
  rw [decide_eq_true rfl, recL_len] at SS
  have HN := Lib.hid (show newS = goneS 0 from rfl)
  have EN := Lib.hid (fun w hT => sNew_any w hT)
  rw [HN.out] at EN
  obtain ⟨lr, hlr⟩ : ∃ l, l = recL ((k : Int) + 1) := ⟨_, rfl⟩
  rw [← hlr] at ER HA HL SS
  obtain ⟨gs, hgs⟩ : ∃ g, g = goneS := ⟨_, rfl⟩
  rw [← hgs] at ET ET2 EB HR HA EN HN
  clear hm hk hlr hgs HN
  have HB := Lib.hid (Below.refl W.heap.size W)
  go_enter Tryd.func6, Tryd.ntmps6
  go_wp2_with fail
  refine (shown13_any _ (HT.out.below HB.out HT.out.1)).mono ?_
  rintro e w1 ⟨rfl, hb⟩
  have nHB := Lib.hid (belG HB.out hb HB.out.size)
  clear hb
  clear HB 
  have HB := nHB
  clear nHB 
  go_wp2_with fail
  refine (EN.out _ (HT.out.below HB.out HT.out.1)).mono ?_
  rintro e w2 ⟨⟨x1, rfl, hk⟩, hb⟩
  have nHB := Lib.hid (belG HB.out hb HB.out.size)
  clear hb
  clear HB 
  have HB := nHB
  clear nHB 
  have RS := Lib.hid hk
  clear hk
  have LB := Lib.hid HB.out.size
  obtain ⟨V2, hV2⟩ : ∃ V, V = w2.alloc (.cells (storC x1 (gs 0)) 24) := ⟨_, rfl⟩
  have ha := (Below.refl w2.heap.size w2).alloc (Nat.le_refl _) (.cells (storC x1 (gs 0)) 24)
  have hg := heap_alloc_new w2 (.cells (storC x1 (gs 0)) 24)
  have nHB := Lib.hid (HB.out.alloc HB.out.size (.cells (storC x1 (gs 0)) 24))
  rw [← hV2] at ha hg nHB
  have nRS := Lib.hid (RS.out.go ha)
  obtain ⟨s, hs⟩ : ∃ g, g = w2.heap.size := ⟨_, rfl⟩
  rw [← hs] at hg
  have HXS := Lib.hid hs
  have S := Lib.hid hg
  have HV := Lib.hid hV2
  clear ha hg hV2 hs
  clear HB RS
  have HB := nHB
  have RS := nRS
  clear nHB nRS
  have LES := Lib.hid (show W.heap.size ≤ s from by rw [HXS.out]; exact LB.out)
  clear LB
  go_upto_region 3 with (refine storeX (.tmp 4) (.tmp 17) _ (storC x1 (gs 0)) _ tyStore rfl (storC_one _ _) (heap_alloc_new _ _) rfl rfl rfl rfl rfl ?_; rw [setRowG_fold])
  rw [← HV.out]
  (try rw [← HXS.out])
  clear HV HXS
  go_wp2_with fail
  go_loopw [6] (fun i wr => ∃ (j : Nat) (y : Wt), j ≤ k ∧ i = .int .i64 ((j : Int) + 1) ∧ Hid (BxS wr s y (gs j)) ∧ Hid (StR wr y (gs j)) ∧ Hid (Below W.heap.size W wr)) (fun i _ => (k + 1) - (intOf i).toNat)
  case atStart => exact ⟨0, x1, Nat.zero_le _, rfl, S, RS, HB⟩
  case round =>
  clear S RS HB
  obtain ⟨j, y, hj, rfl, S, RS, HB⟩ := hrel
  by_cases hlt : j < k
  · have hlI : (j : Int) + 1 ≤ (k : Int) := by omega
    have hj0 : (0 : Int) ≤ (j : Int) := by omega
    have hj40 : (j : Int) < 40 := by omega
    have E1 := Lib.hid (fun w hT h => ET.out j (by omega) y w hT h)
    rw [ET2.out j (by omega)] at E1
    go_wp2_with (refine loadX (.tmp 4) s (storC y (gs j)) tyStore rfl S.out rfl rfl rfl ?_)
    refine (E1.out _ (HT.out.below HB.out HT.out.1) RS.out).mono ?_
    rintro e w3 ⟨⟨z, rfl, hk⟩, hb⟩
    have nHB := Lib.hid (belG HB.out hb HB.out.size)
    have nRS := Lib.hid (RS.out.go hb)
    have nS := Lib.hid (Bx.go S.out hb)
    clear hb
    clear HB RS S
    have HB := nHB
    have RS := nRS
    have S := nS
    clear nHB nRS nS
    have RZ := Lib.hid hk
    clear hk
    have LB := Lib.hid HB.out.size
    have LTS := Lib.hid (show s < w3.heap.size from Bx.lt S.out)
    obtain ⟨V3, hV3⟩ : ∃ V, V = w3.alloc (.cells (storC z (gs (j + 1))) 24) := ⟨_, rfl⟩
    have ha := (Below.refl w3.heap.size w3).alloc (Nat.le_refl _) (.cells (storC z (gs (j + 1))) 24)
    have hg := heap_alloc_new w3 (.cells (storC z (gs (j + 1))) 24)
    have nHB := Lib.hid (HB.out.alloc HB.out.size (.cells (storC z (gs (j + 1))) 24))
    rw [← hV3] at ha hg nHB
    have nRS := Lib.hid (RS.out.go ha)
    have nRZ := Lib.hid (RZ.out.go ha)
    have nS := Lib.hid (Bx.go S.out ha)
    obtain ⟨d, hd⟩ : ∃ g, g = w3.heap.size := ⟨_, rfl⟩
    rw [← hd] at hg
    have HXD := Lib.hid hd
    have D := Lib.hid hg
    have HV := Lib.hid hV3
    clear ha hg hV3 hd
    clear HB RS RZ S
    have HB := nHB
    have RS := nRS
    have RZ := nRZ
    have S := nS
    clear nHB nRS nRZ nS
    have LED := Lib.hid (show W.heap.size ≤ d from by rw [HXD.out]; exact LB.out)
    have NESD := Lib.hid (show s ≠ d from by have h1 := LTS.out; rw [HXD.out]; omega)
    have NEDS := Lib.hid (NESD.out.symm)
    clear LB LTS
    go_upto_region 8 with (refine storeX (.tmp 7) (.tmp 29) _ (storC z (gs (j + 1))) _ tyStore rfl (storC_one _ _) (heap_alloc_new _ _) rfl rfl rfl rfl rfl ?_; rw [setRowG_fold])
    rw [← HV.out]
    (try rw [← HXD.out])
    clear HV HXD
    clear RS
    go_upto_region 6 with (first | (refine loadX (.tmp 7) d (storC z (gs (j + 1))) tyStore rfl D.out rfl rfl rfl ?_) | (refine storeX (.tmp 4) (.tmp 39) s (storC z (gs (j + 1))) _ tyStore rfl (storC_one _ _) S.out rfl rfl rfl rfl rfl ?_))
    obtain ⟨V4, hV4⟩ : ∃ V, V = V3.setRow s (storC z (gs (j + 1))) := ⟨_, rfl⟩
    have nHB := Lib.hid (show Below W.heap.size W V4 by rw [hV4]; exact Below.setRowG HB.out LES.out _)
    have hq := RZ.out.setRow (C' := (storC z (gs (j + 1)))) S.out (no8_stor _ _)
    rw [← hV4] at hq
    have nRZ := Lib.hid hq
    clear hq
    have nS := Lib.hid (show Bx V4 s 24 (storC z (gs (j + 1))) from by rw [hV4]; exact Bx.setRow S.out _)
    have nD := Lib.hid (show Bx V4 d 24 (storC z (gs (j + 1))) from by rw [hV4]; exact Bx.setRowOther D.out NEDS.out _)
    rw [← hV4]
    clear hV4
    clear HB RZ S D
    have HB := nHB
    have RZ := nRZ
    have S := nS
    have D := nD
    clear nHB nRZ nS nD
    go_wp2_with fail
    go_roundw
    case rel => exact ⟨j + 1, z, by omega, by go_num, S, RZ, HB⟩
    case measure => simp [intOf]; omega
  · have hlI : ¬ (j : Int) + 1 ≤ (k : Int) := by omega
    obtain rfl : j = k := by omega
    have hk0 : (0 : Int) ≤ (j : Int) := by omega
    have hk4 : (j : Int) < 40 := by omega
    go_wp2_with (refine loadX (.tmp 4) s (storC y (gs j)) tyStore rfl S.out rfl rfl rfl ?_)
    refine (EB.out y _ (HT.out.below HB.out HT.out.1) RS.out).mono ?_
    rintro e w3 ⟨rfl, hb⟩
    have nHB := Lib.hid (belG HB.out hb HB.out.size)
    have nRS := Lib.hid (RS.out.go hb)
    have nS := Lib.hid (Bx.go S.out hb)
    clear hb
    clear HB RS S
    have HB := nHB
    have RS := nRS
    have S := nS
    clear nHB nRS nS
    go_wp2_with fail
    refine (ER.out _).mono ?_
    rintro e w4 ⟨⟨v3, rfl, how⟩, hb⟩
    have nHB := Lib.hid (belG HB.out hb HB.out.size)
    have nRS := Lib.hid (RS.out.go hb)
    have nS := Lib.hid (Bx.go S.out hb)
    clear hb
    clear HB RS S
    have HB := nHB
    have RS := nRS
    have S := nS
    clear nHB nRS nS
    obtain ⟨y3, rfl, hk⟩ := how.keyB
    have K3 := Lib.hid hk
    clear hk how
    rw [HL.out]
    have s0 := Bx.cell S.out (show (storC y (gs j))[0]? = some (.slice y.a.1 16 y.a.2) from by rw [storC_a, HR.out.1])
    have s1 := Bx.cell S.out (show (storC y (gs j))[1]? = some (.slice y.b.1 16 y.b.2) from by rw [storC_b, HR.out.2])
    by_cases hp : j % 2 = 0
    · have p1 : ((j % 2 : Nat) : Int) = 0 := by omega
      have p2 : (j : Int) % 2 = 0 := by omega
      have p3 : (j : Int).tmod 2 = 0 := by rw [Int.tmod_eq_emod_of_nonneg (by omega)]; omega
      have KW := Lib.hid (show KeyB w4 y.a lr from by have h5 := HA.out; rw [if_pos hp] at h5; rw [← h5]; exact RS.out.1)
      rw [p2]
      clear hp p1
      go_wp2_with fail
      refine (SS.out y.a y3 _ KW.out K3.out).mono ?_
      rintro e w5 ⟨rfl, rfl⟩
      go_wp2_with fail
      go_ret
      exact ⟨by first | rfl | (simp; done), HB.out⟩
    · have p1 : ((j % 2 : Nat) : Int) = 1 := by omega
      have p2 : (j : Int) % 2 = 1 := by omega
      have p3 : (j : Int).tmod 2 = 1 := by rw [Int.tmod_eq_emod_of_nonneg (by omega)]; omega
      have KW := Lib.hid (show KeyB w4 y.b lr from by have h5 := HA.out; rw [if_neg hp] at h5; rw [← h5]; exact RS.out.2)
      rw [p2]
      clear hp p1
      go_wp2_with fail
      refine (SS.out y.b y3 _ KW.out K3.out).mono ?_
      rintro e w5 ⟨rfl, rfl⟩
      go_wp2_with fail
      go_ret
      exact ⟨by first | rfl | (simp; done), HB.out⟩
end Go.Proofs.YtfppcmhhbheaiaaDoor
