
/- shown: the document's example (ask). -/
import Derived.Test.YtegekmgelnkdbaaAqK
namespace Go.Proofs.Ytegekmgelnkdbaa
open Go.RowKit

def askE : Aq := ⟨301, 7, 8, 3, [1]⟩
set_option maxRecDepth 100000 in
theorem askE_tick : ∀ i, i < 8 → tickA (ticksA askE i) = (ticksA askE (i + 1), decide (i + 1 = 8), false) := by decide
set_option maxRecDepth 100000 in
theorem askE_right : ∀ i, i < 9 → RightA (ticksA askE i) := by decide
set_option maxRecDepth 100000 in
theorem rd_one (w : World) : KeyB (w.alloc (.cells #[.int .u8 1] 5)) (some ⟨w.heap.size, 0, none⟩, 1) [1] := by
  refine ⟨Nat.le_refl _, by show 1 ≤ _; decide, fun _ => ⟨w.heap.size, 0, rfl, by rw [World.size_alloc]; omega, fun j hj => ?_⟩⟩
  have h0 : j = 0 := by have : j < 1 := hj; omega
  subst h0
  exact (cell_of_row _ _ _ _ _ _ (heap_alloc_new w (.cells #[.int .u8 1] 5))).trans rfl
set_option maxRecDepth 100000 in
set_option maxHeartbeats 4000000 in
theorem shown15_any (W : World) (hT : Tas W) : Calls Try.prog 8 #[] W fun e W' => e = .returned (.bool true) ∧ Below W.heap.size W W' := by
  have HT := Lib.hid hT
  clear hT
  have CB := Lib.hid (fun w hT => aBegin_any 301 7 (some ⟨w.heap.size, 0, none⟩, 1) [1] (w.alloc (.cells #[.int .u8 1] 5)) hT (.lit rfl) (.lit rfl) (by decide) (rd_one w))
  rw [show beginA 301 7 [1] = (ticksA askE 0, 0) from rfl, show ([1] : List UInt8).length = 1 from rfl] at CB
  have ETK := Lib.hid askE_tick
  have ERT := Lib.hid askE_right
  have CT := Lib.hid (fun (i : Nat) (hi : i < 8) y w hT h => aTick_any y (ticksA askE i) w hT (askE_right i (by omega)) h)
  have CM1 := Lib.hid (fun y w hT h => aMatch_any y (ticksA askE 8) 301 7 w hT (askE_right 8 (by omega)) (.lit rfl) (.lit rfl) h)
  rw [show decide (MatchA (ticksA askE 8) 301 7) = true from by decide] at CM1
  have CM2 := Lib.hid (fun y w hT h => aMatch_any y (ticksA askE 8) 301 8 w hT (askE_right 8 (by omega)) (.lit rfl) (.lit rfl) h)
  rw [show decide (MatchA (ticksA askE 8) 301 8) = false from by decide] at CM2
  have CM3 := Lib.hid (fun w hT => (show Calls Try.prog 19 #[.agg #[.int .i64 0, .int .i64 0, .int .i64 0, .int .i64 0, .slice none 0 0], .int .i64 0, .int .i64 0] w fun e W' => e = .returned (.bool false) ∧ Below w.heap.size w W' from aMatch_any wq0 aq0 0 0 w hT right_none (.lit rfl) (.lit rfl) (keyB0 _)))
  have CR1 := Lib.hid (fun y w hT h => aRight_any y (ticksA askE 8) w hT (askE_right 8 (by omega)).s64 (by decide) h)
  rw [show decide (RightA (ticksA askE 8)) = true from by decide] at CR1
  have CR2 := Lib.hid (fun w hT => (show Calls Try.prog 17 #[.agg #[.int .i64 1, .int .i64 0, .int .i64 0, .int .i64 0, .slice none 0 0]] w fun e W' => e = .returned (.bool false) ∧ Below w.heap.size w W' from aRight_any wq0 ⟨1, 0, 0, 0, []⟩ w hT ⟨.lit rfl, .lit rfl, .lit rfl, .lit rfl⟩ (by decide) (keyB0 _)))
  have CS := Lib.hid (fun w hT => aStan_any 999999 w hT (.lit rfl))
  rw [show stanA 999999 = 1 from rfl] at CS
  have CK := Lib.hid (fun w hT => aKnown_any 201 w hT (.lit rfl))
  rw [show knownA 201 = true from rfl] at CK
  have CS1 := Lib.hid (fun y w hT h => aSame_any y y (ticksA askE 0) (ticksA askE 0) w hT (askE_right 0 (by omega)).s64 (askE_right 0 (by omega)).s64 (by decide) (by decide) h h)
  rw [decide_eq_true (rfl : ticksA askE 0 = ticksA askE 0)] at CS1
  have CS2 := Lib.hid (fun y z w hT h k => aSame_any y z (ticksA askE 0) (ticksA askE 8) w hT (askE_right 0 (by omega)).s64 (askE_right 8 (by omega)).s64 (by decide) (by decide) h k)
  rw [show decide (ticksA askE 0 = ticksA askE 8) = false from by decide] at CS2
  have HX8 := Lib.hid (fun w g y (h : BxQ w g y (ticksA askE 8)) => show w.cell? ⟨g, 2, none⟩ = some (.int .i64 8) ∧ w.cell? ⟨g, 3, none⟩ = some (.int .i64 2) from ⟨h.cell rfl, h.cell rfl⟩)
  have ETE := Lib.hid (fun i hi => (show (tickA (ticksA askE i)).1 = ticksA askE (i + 1) ∧ (tickA (ticksA askE i)).2.1 = decide (i + 1 = 8) ∧ (tickA (ticksA askE i)).2.2 = false from by rw [askE_tick i hi]; exact ⟨rfl, rfl, rfl⟩))
  obtain ⟨tk, htk⟩ : ∃ t, t = ticksA askE := ⟨_, rfl⟩
  rw [← htk] at CB CT CM1 CM2 CR1 CS1 CS2 HX8 ETE
  clear htk ETK ERT
  have HB := Lib.hid (Below.refl W.heap.size W)
  go_enter Try.func8, Try.ntmps8
  go_wp2_with fail
  have hn := HB.out.alloc HB.out.size (.cells #[.int .u8 1] 5)
  have ha := (Below.refl W.heap.size W).alloc (Nat.le_refl _) (.cells #[.int .u8 1] 5)
  refine (CB.out W (HT.out.below (HB.out.alloc HB.out.size _))).mono ?_
  rintro e w1 ⟨⟨y0, rfl, hk⟩, hb⟩
  have nHB := Lib.hid (belG hn hb hn.size)
  have hb2 := belG ha hb ha.size
  clear hn ha
  clear hb hb2
  clear HB 
  have HB := nHB
  clear nHB 
  have RA := Lib.hid hk
  clear hk
  have LB := Lib.hid HB.out.size
  obtain ⟨V1, hV1⟩ : ∃ V, V = w1.alloc (.cells (askC y0 (tk 0)) 24) := ⟨_, rfl⟩
  have ha := (Below.refl w1.heap.size w1).alloc (Nat.le_refl _) (.cells (askC y0 (tk 0)) 24)
  have hg := heap_alloc_new w1 (.cells (askC y0 (tk 0)) 24)
  have nHB := Lib.hid (HB.out.alloc HB.out.size (.cells (askC y0 (tk 0)) 24))
  rw [← hV1] at ha hg nHB
  have nRA := Lib.hid (RA.out.go ha)
  obtain ⟨ga, hga⟩ : ∃ g, g = w1.heap.size := ⟨_, rfl⟩
  rw [← hga] at hg
  have HXGa := Lib.hid hga
  have Ga := Lib.hid hg
  have HV := Lib.hid hV1
  clear ha hg hV1 hga
  clear HB RA
  have HB := nHB
  have RA := nRA
  clear nHB nRA
  have LEGa := Lib.hid (show W.heap.size ≤ ga from by rw [HXGa.out]; exact LB.out)
  clear LB
  go_upto_region 2 with (refine storeX (.tmp 1) (.tmp 12) _ (askC y0 (tk 0)) _ tyAsk rfl (askC_one _ _) (heap_alloc_new _ _) rfl rfl rfl rfl rfl ?_; rw [setRowG_fold])
  rw [← HV.out]
  (try rw [← HXGa.out])
  clear HV HXGa
  have OGa := Ga
  have LB := Lib.hid HB.out.size
  have LTGa := Lib.hid (show ga < V1.heap.size from Bx.lt Ga.out)
  obtain ⟨V2, hV2⟩ : ∃ V, V = V1.alloc (.cells (askC y0 (tk 0)) 24) := ⟨_, rfl⟩
  have ha := (Below.refl V1.heap.size V1).alloc (Nat.le_refl _) (.cells (askC y0 (tk 0)) 24)
  have hg := heap_alloc_new V1 (.cells (askC y0 (tk 0)) 24)
  have nHB := Lib.hid (HB.out.alloc HB.out.size (.cells (askC y0 (tk 0)) 24))
  rw [← hV2] at ha hg nHB
  have nRA := Lib.hid (RA.out.go ha)
  have nGa := Lib.hid (Bx.go Ga.out ha)
  obtain ⟨gx, hgx⟩ : ∃ g, g = V1.heap.size := ⟨_, rfl⟩
  rw [← hgx] at hg
  have HXGx := Lib.hid hgx
  have Gx := Lib.hid hg
  have HV := Lib.hid hV2
  clear ha hg hV2 hgx
  clear HB RA Ga
  have HB := nHB
  have RA := nRA
  have Ga := nGa
  clear nHB nRA nGa
  have LEGx := Lib.hid (show W.heap.size ≤ gx from by rw [HXGx.out]; exact LB.out)
  have NEGaGx := Lib.hid (show ga ≠ gx from by have h1 := LTGa.out; rw [HXGx.out]; omega)
  have NEGxGa := Lib.hid (NEGaGx.out.symm)
  clear LB LTGa
  go_upto_region 3 with (first | (refine loadX (.tmp 1) ga (askC y0 (tk 0)) tyAsk rfl OGa.out rfl rfl rfl ?_) | (refine storeX (.tmp 3) (.tmp 14) _ (askC y0 (tk 0)) _ tyAsk rfl (askC_one _ _) (heap_alloc_new _ _) rfl rfl rfl rfl rfl ?_; rw [setRowG_fold]))
  rw [← HV.out]
  (try rw [← HXGx.out])
  clear HV HXGx
  clear OGa
  have RX := RA
  go_wp2_with fail
  go_loopw [4, 5] (fun v4 v5 wr => ∃ (i : Nat) (y : Wkb), i ≤ 8 ∧ v4 = .bool (decide (i = 8)) ∧ v5 = .int .i64 i ∧ Hid (BxQ wr ga y0 (tk 0)) ∧ Hid (BxQ wr gx y (tk i)) ∧ Hid (AqR wr y0 (tk 0)) ∧ Hid (AqR wr y (tk i)) ∧ Hid (Below W.heap.size W wr)) (fun _ v5 _ => 8 - (intOf v5).toNat)
  case atStart => exact ⟨0, y0, by omega, rfl, rfl, Ga, Gx, RA, RX, HB⟩
  case round =>
  clear Ga Gx RA RX HB
  obtain ⟨i, y, hi, rfl, rfl, Ga, Gx, RA, RX, HB⟩ := hrel
  by_cases hlt : i < 8
  · have hiI : (i : Int) < 8 := by omega
    have hi0 : (0 : Int) ≤ (i : Int) := by omega
    obtain ⟨e1, e2, e3⟩ := ETE.out i hlt
    have C1 := Lib.hid (CT.out i hlt)
    rw [e1, e2, e3] at C1
    clear e1 e2 e3
    go_wp2_with (refine loadX (.tmp 3) gx (askC y (tk i)) tyAsk rfl Gx.out rfl rfl rfl ?_)
    refine (C1.out y _ (HT.out.below HB.out) RX.out).mono ?_
    rintro e w3 ⟨⟨z, rfl, hk⟩, hb⟩
    have nHB := Lib.hid (belG HB.out hb HB.out.size)
    have nRA := Lib.hid (RA.out.go hb)
    have nRX := Lib.hid (RX.out.go hb)
    have nGa := Lib.hid (Bx.go Ga.out hb)
    have nGx := Lib.hid (Bx.go Gx.out hb)
    clear hb
    clear HB RA RX Ga Gx
    have HB := nHB
    have RA := nRA
    have RX := nRX
    have Ga := nGa
    have Gx := nGx
    clear nHB nRA nRX nGa nGx
    have RGd := Lib.hid hk
    clear hk
    have LB := Lib.hid HB.out.size
    have LTGa := Lib.hid (show ga < w3.heap.size from Bx.lt Ga.out)
    have LTGx := Lib.hid (show gx < w3.heap.size from Bx.lt Gx.out)
    obtain ⟨V3, hV3⟩ : ∃ V, V = w3.alloc (.cells (askC z (tk (i + 1))) 24) := ⟨_, rfl⟩
    have ha := (Below.refl w3.heap.size w3).alloc (Nat.le_refl _) (.cells (askC z (tk (i + 1))) 24)
    have hg := heap_alloc_new w3 (.cells (askC z (tk (i + 1))) 24)
    have nHB := Lib.hid (HB.out.alloc HB.out.size (.cells (askC z (tk (i + 1))) 24))
    rw [← hV3] at ha hg nHB
    have nRA := Lib.hid (RA.out.go ha)
    have nRX := Lib.hid (RX.out.go ha)
    have nRGd := Lib.hid (RGd.out.go ha)
    have nGa := Lib.hid (Bx.go Ga.out ha)
    have nGx := Lib.hid (Bx.go Gx.out ha)
    obtain ⟨gd, hgd⟩ : ∃ g, g = w3.heap.size := ⟨_, rfl⟩
    rw [← hgd] at hg
    have HXGd := Lib.hid hgd
    have Gd := Lib.hid hg
    have HV := Lib.hid hV3
    clear ha hg hV3 hgd
    clear HB RA RX RGd Ga Gx
    have HB := nHB
    have RA := nRA
    have RX := nRX
    have RGd := nRGd
    have Ga := nGa
    have Gx := nGx
    clear nHB nRA nRX nRGd nGa nGx
    have LEGd := Lib.hid (show W.heap.size ≤ gd from by rw [HXGd.out]; exact LB.out)
    have NEGaGd := Lib.hid (show ga ≠ gd from by have h1 := LTGa.out; rw [HXGd.out]; omega)
    have NEGdGa := Lib.hid (NEGaGd.out.symm)
    have NEGxGd := Lib.hid (show gx ≠ gd from by have h1 := LTGx.out; rw [HXGd.out]; omega)
    have NEGdGx := Lib.hid (NEGxGd.out.symm)
    clear LB LTGa LTGx
    go_upto_region 8 with (refine storeX (.tmp 6) (.tmp 22) _ (askC z (tk (i + 1))) _ tyAsk rfl (askC_one _ _) (heap_alloc_new _ _) rfl rfl rfl rfl rfl ?_; rw [setRowG_fold])
    rw [← HV.out]
    (try rw [← HXGd.out])
    clear HV HXGd
    clear RX
    go_upto_region 9 with (first | (refine loadX (.tmp 6) gd (askC z (tk (i + 1))) tyAsk rfl Gd.out rfl rfl rfl ?_) | (refine storeX (.tmp 3) (.tmp 25) gx (askC z (tk (i + 1))) _ tyAsk rfl (askC_one _ _) Gx.out rfl rfl rfl rfl rfl ?_))
    obtain ⟨V4, hV4⟩ : ∃ V, V = V3.setRow gx (askC z (tk (i + 1))) := ⟨_, rfl⟩
    have nHB := Lib.hid (show Below W.heap.size W V4 by rw [hV4]; exact Below.setRowG HB.out LEGx.out _)
    have hq := RA.out.setRow (C' := (askC z (tk (i + 1)))) Gx.out (no8_ask _ _)
    rw [← hV4] at hq
    have nRA := Lib.hid hq
    clear hq
    have hq := RGd.out.setRow (C' := (askC z (tk (i + 1)))) Gx.out (no8_ask _ _)
    rw [← hV4] at hq
    have nRGd := Lib.hid hq
    clear hq
    have nGa := Lib.hid (show Bx V4 ga 24 (askC y0 (tk 0)) from by rw [hV4]; exact Bx.setRowOther Ga.out NEGaGx.out _)
    have nGx := Lib.hid (show Bx V4 gx 24 (askC z (tk (i + 1))) from by rw [hV4]; exact Bx.setRow Gx.out _)
    have nGd := Lib.hid (show Bx V4 gd 24 (askC z (tk (i + 1))) from by rw [hV4]; exact Bx.setRowOther Gd.out NEGdGx.out _)
    rw [← hV4]
    clear hV4
    clear HB RA RGd Ga Gx Gd
    have HB := nHB
    have RA := nRA
    have RGd := nRGd
    have Ga := nGa
    have Gx := nGx
    have Gd := nGd
    clear nHB nRA nRGd nGa nGx nGd
    go_wp2_with fail
    go_roundw
    case rel => exact ⟨i + 1, z, by omega, by (congr 1; rw [Bool.eq_iff_iff, decide_eq_true_eq, decide_eq_true_eq]; omega), by go_num, Ga, Gx, RA, RGd, HB⟩
    case measure => simp [intOf]; omega
  · obtain rfl : i = 8 := by omega
    obtain ⟨c2, c3⟩ := HX8.out _ _ _ Gx.out
    clear hlt CT CB ETE HX8
    go_wp2_with (refine loadX (.tmp 3) gx (askC y (tk 8)) tyAsk rfl Gx.out rfl rfl rfl ?_)
    refine (CM1.out y _ (HT.out.below HB.out) RX.out).mono ?_
    rintro e w3 ⟨rfl, hb⟩
    have nHB := Lib.hid (belG HB.out hb HB.out.size)
    have nRA := Lib.hid (RA.out.go hb)
    have nRX := Lib.hid (RX.out.go hb)
    have nGa := Lib.hid (Bx.go Ga.out hb)
    have nGx := Lib.hid (Bx.go Gx.out hb)
    clear hb
    clear HB RA RX Ga Gx
    have HB := nHB
    have RA := nRA
    have RX := nRX
    have Ga := nGa
    have Gx := nGx
    clear nHB nRA nRX nGa nGx
    clear c2 c3
    go_wp2_with (refine loadX (.tmp 3) gx (askC y (tk 8)) tyAsk rfl Gx.out rfl rfl rfl ?_)
    refine (CM2.out y _ (HT.out.below HB.out) RX.out).mono ?_
    rintro e w4 ⟨rfl, hb⟩
    have nHB := Lib.hid (belG HB.out hb HB.out.size)
    have nRA := Lib.hid (RA.out.go hb)
    have nRX := Lib.hid (RX.out.go hb)
    have nGa := Lib.hid (Bx.go Ga.out hb)
    have nGx := Lib.hid (Bx.go Gx.out hb)
    clear hb
    clear HB RA RX Ga Gx
    have HB := nHB
    have RA := nRA
    have RX := nRX
    have Ga := nGa
    have Gx := nGx
    clear nHB nRA nRX nGa nGx
    go_wp2_with fail
    refine (CM3.out _ (HT.out.below HB.out)).mono ?_
    rintro e w5 ⟨rfl, hb⟩
    have nHB := Lib.hid (belG HB.out hb HB.out.size)
    have nRA := Lib.hid (RA.out.go hb)
    have nRX := Lib.hid (RX.out.go hb)
    have nGa := Lib.hid (Bx.go Ga.out hb)
    have nGx := Lib.hid (Bx.go Gx.out hb)
    clear hb
    clear HB RA RX Ga Gx
    have HB := nHB
    have RA := nRA
    have RX := nRX
    have Ga := nGa
    have Gx := nGx
    clear nHB nRA nRX nGa nGx
    go_wp2_with (refine loadX (.tmp 3) gx (askC y (tk 8)) tyAsk rfl Gx.out rfl rfl rfl ?_)
    refine (CR1.out y _ (HT.out.below HB.out) RX.out).mono ?_
    rintro e w6 ⟨rfl, hb⟩
    have nHB := Lib.hid (belG HB.out hb HB.out.size)
    have nRA := Lib.hid (RA.out.go hb)
    have nRX := Lib.hid (RX.out.go hb)
    have nGa := Lib.hid (Bx.go Ga.out hb)
    have nGx := Lib.hid (Bx.go Gx.out hb)
    clear hb
    clear HB RA RX Ga Gx
    have HB := nHB
    have RA := nRA
    have RX := nRX
    have Ga := nGa
    have Gx := nGx
    clear nHB nRA nRX nGa nGx
    go_wp2_with fail
    refine (CR2.out _ (HT.out.below HB.out)).mono ?_
    rintro e w7 ⟨rfl, hb⟩
    have nHB := Lib.hid (belG HB.out hb HB.out.size)
    have nRA := Lib.hid (RA.out.go hb)
    have nRX := Lib.hid (RX.out.go hb)
    have nGa := Lib.hid (Bx.go Ga.out hb)
    have nGx := Lib.hid (Bx.go Gx.out hb)
    clear hb
    clear HB RA RX Ga Gx
    have HB := nHB
    have RA := nRA
    have RX := nRX
    have Ga := nGa
    have Gx := nGx
    clear nHB nRA nRX nGa nGx
    go_wp2_with fail
    refine (CS.out _ (HT.out.below HB.out)).mono ?_
    rintro e w8 ⟨rfl, hb⟩
    have nHB := Lib.hid (belG HB.out hb HB.out.size)
    have nRA := Lib.hid (RA.out.go hb)
    have nRX := Lib.hid (RX.out.go hb)
    have nGa := Lib.hid (Bx.go Ga.out hb)
    have nGx := Lib.hid (Bx.go Gx.out hb)
    clear hb
    clear HB RA RX Ga Gx
    have HB := nHB
    have RA := nRA
    have RX := nRX
    have Ga := nGa
    have Gx := nGx
    clear nHB nRA nRX nGa nGx
    go_wp2_with fail
    refine (CK.out _ (HT.out.below HB.out)).mono ?_
    rintro e w9 ⟨rfl, hb⟩
    have nHB := Lib.hid (belG HB.out hb HB.out.size)
    have nRA := Lib.hid (RA.out.go hb)
    have nRX := Lib.hid (RX.out.go hb)
    have nGa := Lib.hid (Bx.go Ga.out hb)
    have nGx := Lib.hid (Bx.go Gx.out hb)
    clear hb
    clear HB RA RX Ga Gx
    have HB := nHB
    have RA := nRA
    have RX := nRX
    have Ga := nGa
    have Gx := nGx
    clear nHB nRA nRX nGa nGx
    go_wp2_with (refine loadX (.tmp 1) ga (askC y0 (tk 0)) tyAsk rfl Ga.out rfl rfl rfl ?_)
    refine (CS1.out y0 _ (HT.out.below HB.out) RA.out).mono ?_
    rintro e w10 ⟨rfl, hb⟩
    have nHB := Lib.hid (belG HB.out hb HB.out.size)
    have nRA := Lib.hid (RA.out.go hb)
    have nRX := Lib.hid (RX.out.go hb)
    have nGa := Lib.hid (Bx.go Ga.out hb)
    have nGx := Lib.hid (Bx.go Gx.out hb)
    clear hb
    clear HB RA RX Ga Gx
    have HB := nHB
    have RA := nRA
    have RX := nRX
    have Ga := nGa
    have Gx := nGx
    clear nHB nRA nRX nGa nGx
    go_wp2_with (first | (refine loadX (.tmp 1) ga (askC y0 (tk 0)) tyAsk rfl Ga.out rfl rfl rfl ?_) | (refine loadX (.tmp 3) gx (askC y (tk 8)) tyAsk rfl Gx.out rfl rfl rfl ?_))
    refine (CS2.out y0 y _ (HT.out.below HB.out) RA.out RX.out).mono ?_
    rintro e w11 ⟨rfl, hb⟩
    have nHB := Lib.hid (belG HB.out hb HB.out.size)
    have nRA := Lib.hid (RA.out.go hb)
    have nRX := Lib.hid (RX.out.go hb)
    have nGa := Lib.hid (Bx.go Ga.out hb)
    have nGx := Lib.hid (Bx.go Gx.out hb)
    clear hb
    clear HB RA RX Ga Gx
    have HB := nHB
    have RA := nRA
    have RX := nRX
    have Ga := nGa
    have Gx := nGx
    clear nHB nRA nRX nGa nGx
    go_wp2_with fail
    go_ret
    exact ⟨by first | rfl | (simp; done), HB.out⟩
end Go.Proofs.Ytegekmgelnkdbaa
