
/- AskBegins' walk. -/
import Derived.Test.YtegekmgelnkdbaaAqS
import Derived.Test.YtegekmgelnkdbaaAqO
namespace Go.Proofs.Ytegekmgelnkdbaa
open Go.RowKit

set_option maxRecDepth 100000 in
theorem tyABeg : Ty 43 4 := ⟨⟨_, Try.underlying43, rfl⟩, by kernel_rfl⟩
set_option maxRecDepth 100000 in
set_option maxHeartbeats 2000000 in
theorem askBegins_walk (c s : Int) (z : Wkb) (l : List UInt8) (o : Int) (W : World) (hc : B64a c) (hs : B64a s) (hz : KeyB W z l) (ho : B64a o) (hT : Tas W) :
    Calls Try.prog 6 #[.agg (aBegC c s z l o)] W fun e W' => e = .returned (.bool true) ∧ Below W.heap.size W W' := by
  have HT := Lib.hid hT
  clear hT
  have RK := Lib.hid hz
  clear hz
  have HC0 := Lib.hid (show (aBegC c s z l o)[0]? = some (.int .i64 c) from rfl)
  have HC1 := Lib.hid (show (aBegC c s z l o)[1]? = some (.int .i64 s) from rfl)
  have HC2 := Lib.hid (show (aBegC c s z l o)[2]? = some (.slice z.1 l.length z.2) from rfl)
  have HC3 := Lib.hid (show (aBegC c s z l o)[3]? = some (.int .i64 o) from rfl)
  obtain ⟨CC, hCC⟩ : ∃ CC, CC = aBegC c s z l o := ⟨_, rfl⟩
  rw [← hCC] at HC0 HC1 HC2 HC3 ⊢
  clear hCC
  obtain ⟨m, hm⟩ : ∃ m, m = l.length := ⟨_, rfl⟩
  rw [← hm] at HC2
  have HM := Lib.hid hm
  have HCS := Lib.hid (show B64a c ∧ B64a s ∧ B64a o from ⟨hc, hs, ho⟩)
  clear hm hc hs ho
  obtain ⟨V0, hV, hb, hg⟩ := bx1 W 43 CC
  have HB := Lib.hid hb
  have G0 := Lib.hid hg
  have HV := Lib.hid hV
  have nRK := Lib.hid (RK.out.go hb)
  clear RK
  have RK := nRK
  clear nRK
  clear hb hg hV
  go_enter Try.func6, Try.ntmps6
  go_upto_region 1 with (fail)
  rw [← HV.out]
  clear HV
  have x0 := Bx.cell G0.out HC0.out
  have x1 := Bx.cell G0.out HC1.out
  have x2 := Bx.cell G0.out HC2.out
  have x3 := Bx.cell G0.out HC3.out
  go_wp2_with fail
  clear x0 x1 x2 x3 HC0 HC1 HC2 HC3
  refine (shown15_any _ (HT.out.below HB.out)).mono ?_
  rintro e w1 ⟨rfl, hb⟩
  have nHB := Lib.hid (belG HB.out hb HB.out.size)
  have nRK := Lib.hid (RK.out.go hb)
  have nG0 := Lib.hid (Bx.go G0.out hb)
  clear hb
  clear HB RK G0
  have HB := nHB
  have RK := nRK
  have G0 := nG0
  clear nHB nRK nG0
  clear G0
  go_upto_region 6 with fail
  by_cases hmk : 1000 < m
  case pos =>
    have i1 : (1000 : Int) < (m : Int) := by omega
    go_wp2_with fail
    go_ret
    exact ⟨by first | rfl | (simp; done), HB.out⟩
  have i1 : ¬ (1000 : Int) < (m : Int) := by omega
  have hm0 : (0 : Int) ≤ (m : Int) := Int.natCast_nonneg m
  have EB := Lib.hid (fun w hT (h : KeyB w z l) => aBegin_any c s z l w hT HCS.out.1 HCS.out.2.1 (by have := HM.out; omega) h)
  rw [← HM.out] at EB
  have EK := Lib.hid (fun w hT => aKnown_any c w hT HCS.out.1)
  by_cases hf : FitsA c s l.length
  case neg =>
    rw [show beginA c s l = (aq0, 1) from by unfold beginA; rw [if_neg hf]] at EB
    have EM := Lib.hid (fun y w hT h => aMatch_any y aq0 c s w hT right_none HCS.out.1 HCS.out.2.1 h)
    rw [show decide (MatchA aq0 c s) = false from decide_eq_false (fun h => h.1 ⟨rfl, rfl, rfl, rfl, rfl⟩)] at EM
    rw [← HM.out] at hf
    unfold FitsA at hf
    generalize knownA c = kn at *
    clear hmk
    by_cases h0 : kn = false
    · obtain rfl := h0
      clear hf
      go_wp2_with fail
      refine (EB.out _ (HT.out.below HB.out) RK.out).mono ?_
      rintro e w2 ⟨⟨y, rfl, hk⟩, hb⟩
      have nHB := Lib.hid (belG HB.out hb HB.out.size)
      have nRK := Lib.hid (RK.out.go hb)
      clear hb
      clear HB RK
      have HB := nHB
      have RK := nRK
      clear nHB nRK
      have RGx := Lib.hid hk
      clear hk
      have LB := Lib.hid HB.out.size
      obtain ⟨V2, hV2⟩ : ∃ V, V = w2.alloc (.cells (askC y aq0) 24) := ⟨_, rfl⟩
      have ha := (Below.refl w2.heap.size w2).alloc (Nat.le_refl _) (.cells (askC y aq0) 24)
      have hg := heap_alloc_new w2 (.cells (askC y aq0) 24)
      have nHB := Lib.hid (HB.out.alloc HB.out.size (.cells (askC y aq0) 24))
      rw [← hV2] at ha hg nHB
      have nRK := Lib.hid (RK.out.go ha)
      have nRGx := Lib.hid (RGx.out.go ha)
      obtain ⟨gx, hgx⟩ : ∃ g, g = w2.heap.size := ⟨_, rfl⟩
      rw [← hgx] at hg
      have HXGx := Lib.hid hgx
      have Gx := Lib.hid hg
      have HV := Lib.hid hV2
      clear ha hg hV2 hgx
      clear HB RK RGx
      have HB := nHB
      have RK := nRK
      have RGx := nRGx
      clear nHB nRK nRGx
      have LEGx := Lib.hid (show W.heap.size ≤ gx from by rw [HXGx.out]; exact LB.out)
      clear LB
      go_upto_region 9 with (refine storeX (.tmp 8) (.tmp 34) _ (askC y aq0) _ tyAsk rfl (askC_one _ _) (heap_alloc_new _ _) rfl rfl rfl rfl rfl ?_; rw [setRowG_fold])
      rw [← HV.out]
      (try rw [← HXGx.out])
      clear HV HXGx
      go_wp2_with (refine loadX (.tmp 8) gx (askC y aq0) tyAsk rfl Gx.out rfl rfl rfl ?_)
      refine (EM.out y _ (HT.out.below HB.out) RGx.out).mono ?_
      rintro e w3 ⟨rfl, hb⟩
      have nHB := Lib.hid (belG HB.out hb HB.out.size)
      have nRK := Lib.hid (RK.out.go hb)
      have nRGx := Lib.hid (RGx.out.go hb)
      have nGx := Lib.hid (Bx.go Gx.out hb)
      clear hb
      clear HB RK RGx Gx
      have HB := nHB
      have RK := nRK
      have RGx := nRGx
      have Gx := nGx
      clear nHB nRK nRGx nGx
      go_wp2_with fail
      refine (EK.out _ (HT.out.below HB.out)).mono ?_
      rintro e w4 ⟨rfl, hb⟩
      have nHB := Lib.hid (belG HB.out hb HB.out.size)
      have nRK := Lib.hid (RK.out.go hb)
      have nRGx := Lib.hid (RGx.out.go hb)
      have nGx := Lib.hid (Bx.go Gx.out hb)
      clear hb
      clear HB RK RGx Gx
      have HB := nHB
      have RK := nRK
      have RGx := nRGx
      have Gx := nGx
      clear nHB nRK nRGx nGx
      go_wp2_with fail
      go_ret
      exact ⟨by first | rfl | (simp; done), HB.out⟩
    · obtain rfl : kn = true := by cases kn with
        | true => rfl
        | false => exact absurd rfl h0
      clear h0
      by_cases h1 : s < 1
      · clear hf
        go_wp2_with fail
        refine (EB.out _ (HT.out.below HB.out) RK.out).mono ?_
        rintro e w2 ⟨⟨y, rfl, hk⟩, hb⟩
        have nHB := Lib.hid (belG HB.out hb HB.out.size)
        have nRK := Lib.hid (RK.out.go hb)
        clear hb
        clear HB RK
        have HB := nHB
        have RK := nRK
        clear nHB nRK
        have RGx := Lib.hid hk
        clear hk
        have LB := Lib.hid HB.out.size
        obtain ⟨V2, hV2⟩ : ∃ V, V = w2.alloc (.cells (askC y aq0) 24) := ⟨_, rfl⟩
        have ha := (Below.refl w2.heap.size w2).alloc (Nat.le_refl _) (.cells (askC y aq0) 24)
        have hg := heap_alloc_new w2 (.cells (askC y aq0) 24)
        have nHB := Lib.hid (HB.out.alloc HB.out.size (.cells (askC y aq0) 24))
        rw [← hV2] at ha hg nHB
        have nRK := Lib.hid (RK.out.go ha)
        have nRGx := Lib.hid (RGx.out.go ha)
        obtain ⟨gx, hgx⟩ : ∃ g, g = w2.heap.size := ⟨_, rfl⟩
        rw [← hgx] at hg
        have HXGx := Lib.hid hgx
        have Gx := Lib.hid hg
        have HV := Lib.hid hV2
        clear ha hg hV2 hgx
        clear HB RK RGx
        have HB := nHB
        have RK := nRK
        have RGx := nRGx
        clear nHB nRK nRGx
        have LEGx := Lib.hid (show W.heap.size ≤ gx from by rw [HXGx.out]; exact LB.out)
        clear LB
        go_upto_region 9 with (refine storeX (.tmp 8) (.tmp 34) _ (askC y aq0) _ tyAsk rfl (askC_one _ _) (heap_alloc_new _ _) rfl rfl rfl rfl rfl ?_; rw [setRowG_fold])
        rw [← HV.out]
        (try rw [← HXGx.out])
        clear HV HXGx
        go_wp2_with (refine loadX (.tmp 8) gx (askC y aq0) tyAsk rfl Gx.out rfl rfl rfl ?_)
        refine (EM.out y _ (HT.out.below HB.out) RGx.out).mono ?_
        rintro e w3 ⟨rfl, hb⟩
        have nHB := Lib.hid (belG HB.out hb HB.out.size)
        have nRK := Lib.hid (RK.out.go hb)
        have nRGx := Lib.hid (RGx.out.go hb)
        have nGx := Lib.hid (Bx.go Gx.out hb)
        clear hb
        clear HB RK RGx Gx
        have HB := nHB
        have RK := nRK
        have RGx := nRGx
        have Gx := nGx
        clear nHB nRK nRGx nGx
        go_wp2_with fail
        refine (EK.out _ (HT.out.below HB.out)).mono ?_
        rintro e w4 ⟨rfl, hb⟩
        have nHB := Lib.hid (belG HB.out hb HB.out.size)
        have nRK := Lib.hid (RK.out.go hb)
        have nRGx := Lib.hid (RGx.out.go hb)
        have nGx := Lib.hid (Bx.go Gx.out hb)
        clear hb
        clear HB RK RGx Gx
        have HB := nHB
        have RK := nRK
        have RGx := nRGx
        have Gx := nGx
        clear nHB nRK nRGx nGx
        go_wp2_with fail
        go_ret
        exact ⟨by first | rfl | (simp; done), HB.out⟩
      · by_cases h2 : 999999 < s
        · clear hf
          go_wp2_with fail
          refine (EB.out _ (HT.out.below HB.out) RK.out).mono ?_
          rintro e w2 ⟨⟨y, rfl, hk⟩, hb⟩
          have nHB := Lib.hid (belG HB.out hb HB.out.size)
          have nRK := Lib.hid (RK.out.go hb)
          clear hb
          clear HB RK
          have HB := nHB
          have RK := nRK
          clear nHB nRK
          have RGx := Lib.hid hk
          clear hk
          have LB := Lib.hid HB.out.size
          obtain ⟨V2, hV2⟩ : ∃ V, V = w2.alloc (.cells (askC y aq0) 24) := ⟨_, rfl⟩
          have ha := (Below.refl w2.heap.size w2).alloc (Nat.le_refl _) (.cells (askC y aq0) 24)
          have hg := heap_alloc_new w2 (.cells (askC y aq0) 24)
          have nHB := Lib.hid (HB.out.alloc HB.out.size (.cells (askC y aq0) 24))
          rw [← hV2] at ha hg nHB
          have nRK := Lib.hid (RK.out.go ha)
          have nRGx := Lib.hid (RGx.out.go ha)
          obtain ⟨gx, hgx⟩ : ∃ g, g = w2.heap.size := ⟨_, rfl⟩
          rw [← hgx] at hg
          have HXGx := Lib.hid hgx
          have Gx := Lib.hid hg
          have HV := Lib.hid hV2
          clear ha hg hV2 hgx
          clear HB RK RGx
          have HB := nHB
          have RK := nRK
          have RGx := nRGx
          clear nHB nRK nRGx
          have LEGx := Lib.hid (show W.heap.size ≤ gx from by rw [HXGx.out]; exact LB.out)
          clear LB
          go_upto_region 9 with (refine storeX (.tmp 8) (.tmp 34) _ (askC y aq0) _ tyAsk rfl (askC_one _ _) (heap_alloc_new _ _) rfl rfl rfl rfl rfl ?_; rw [setRowG_fold])
          rw [← HV.out]
          (try rw [← HXGx.out])
          clear HV HXGx
          go_wp2_with (refine loadX (.tmp 8) gx (askC y aq0) tyAsk rfl Gx.out rfl rfl rfl ?_)
          refine (EM.out y _ (HT.out.below HB.out) RGx.out).mono ?_
          rintro e w3 ⟨rfl, hb⟩
          have nHB := Lib.hid (belG HB.out hb HB.out.size)
          have nRK := Lib.hid (RK.out.go hb)
          have nRGx := Lib.hid (RGx.out.go hb)
          have nGx := Lib.hid (Bx.go Gx.out hb)
          clear hb
          clear HB RK RGx Gx
          have HB := nHB
          have RK := nRK
          have RGx := nRGx
          have Gx := nGx
          clear nHB nRK nRGx nGx
          go_wp2_with fail
          refine (EK.out _ (HT.out.below HB.out)).mono ?_
          rintro e w4 ⟨rfl, hb⟩
          have nHB := Lib.hid (belG HB.out hb HB.out.size)
          have nRK := Lib.hid (RK.out.go hb)
          have nRGx := Lib.hid (RGx.out.go hb)
          have nGx := Lib.hid (Bx.go Gx.out hb)
          clear hb
          clear HB RK RGx Gx
          have HB := nHB
          have RK := nRK
          have RGx := nRGx
          have Gx := nGx
          clear nHB nRK nRGx nGx
          go_wp2_with fail
          go_ret
          exact ⟨by first | rfl | (simp; done), HB.out⟩
        · by_cases h3 : m < 1
          · have j3 : (m : Int) < 1 := by omega
            clear hf
            go_wp2_with fail
            refine (EB.out _ (HT.out.below HB.out) RK.out).mono ?_
            rintro e w2 ⟨⟨y, rfl, hk⟩, hb⟩
            have nHB := Lib.hid (belG HB.out hb HB.out.size)
            have nRK := Lib.hid (RK.out.go hb)
            clear hb
            clear HB RK
            have HB := nHB
            have RK := nRK
            clear nHB nRK
            have RGx := Lib.hid hk
            clear hk
            have LB := Lib.hid HB.out.size
            obtain ⟨V2, hV2⟩ : ∃ V, V = w2.alloc (.cells (askC y aq0) 24) := ⟨_, rfl⟩
            have ha := (Below.refl w2.heap.size w2).alloc (Nat.le_refl _) (.cells (askC y aq0) 24)
            have hg := heap_alloc_new w2 (.cells (askC y aq0) 24)
            have nHB := Lib.hid (HB.out.alloc HB.out.size (.cells (askC y aq0) 24))
            rw [← hV2] at ha hg nHB
            have nRK := Lib.hid (RK.out.go ha)
            have nRGx := Lib.hid (RGx.out.go ha)
            obtain ⟨gx, hgx⟩ : ∃ g, g = w2.heap.size := ⟨_, rfl⟩
            rw [← hgx] at hg
            have HXGx := Lib.hid hgx
            have Gx := Lib.hid hg
            have HV := Lib.hid hV2
            clear ha hg hV2 hgx
            clear HB RK RGx
            have HB := nHB
            have RK := nRK
            have RGx := nRGx
            clear nHB nRK nRGx
            have LEGx := Lib.hid (show W.heap.size ≤ gx from by rw [HXGx.out]; exact LB.out)
            clear LB
            go_upto_region 9 with (refine storeX (.tmp 8) (.tmp 34) _ (askC y aq0) _ tyAsk rfl (askC_one _ _) (heap_alloc_new _ _) rfl rfl rfl rfl rfl ?_; rw [setRowG_fold])
            rw [← HV.out]
            (try rw [← HXGx.out])
            clear HV HXGx
            go_wp2_with (refine loadX (.tmp 8) gx (askC y aq0) tyAsk rfl Gx.out rfl rfl rfl ?_)
            refine (EM.out y _ (HT.out.below HB.out) RGx.out).mono ?_
            rintro e w3 ⟨rfl, hb⟩
            have nHB := Lib.hid (belG HB.out hb HB.out.size)
            have nRK := Lib.hid (RK.out.go hb)
            have nRGx := Lib.hid (RGx.out.go hb)
            have nGx := Lib.hid (Bx.go Gx.out hb)
            clear hb
            clear HB RK RGx Gx
            have HB := nHB
            have RK := nRK
            have RGx := nRGx
            have Gx := nGx
            clear nHB nRK nRGx nGx
            go_wp2_with fail
            refine (EK.out _ (HT.out.below HB.out)).mono ?_
            rintro e w4 ⟨rfl, hb⟩
            have nHB := Lib.hid (belG HB.out hb HB.out.size)
            have nRK := Lib.hid (RK.out.go hb)
            have nRGx := Lib.hid (RGx.out.go hb)
            have nGx := Lib.hid (Bx.go Gx.out hb)
            clear hb
            clear HB RK RGx Gx
            have HB := nHB
            have RK := nRK
            have RGx := nRGx
            have Gx := nGx
            clear nHB nRK nRGx nGx
            go_wp2_with fail
            go_ret
            exact ⟨by first | rfl | (simp; done), HB.out⟩
          · have j3 : ¬ (m : Int) < 1 := by omega
            by_cases h4 : 900 < m
            · have j4 : (900 : Int) < (m : Int) := by omega
              clear hf
              go_wp2_with fail
              refine (EB.out _ (HT.out.below HB.out) RK.out).mono ?_
              rintro e w2 ⟨⟨y, rfl, hk⟩, hb⟩
              have nHB := Lib.hid (belG HB.out hb HB.out.size)
              have nRK := Lib.hid (RK.out.go hb)
              clear hb
              clear HB RK
              have HB := nHB
              have RK := nRK
              clear nHB nRK
              have RGx := Lib.hid hk
              clear hk
              have LB := Lib.hid HB.out.size
              obtain ⟨V2, hV2⟩ : ∃ V, V = w2.alloc (.cells (askC y aq0) 24) := ⟨_, rfl⟩
              have ha := (Below.refl w2.heap.size w2).alloc (Nat.le_refl _) (.cells (askC y aq0) 24)
              have hg := heap_alloc_new w2 (.cells (askC y aq0) 24)
              have nHB := Lib.hid (HB.out.alloc HB.out.size (.cells (askC y aq0) 24))
              rw [← hV2] at ha hg nHB
              have nRK := Lib.hid (RK.out.go ha)
              have nRGx := Lib.hid (RGx.out.go ha)
              obtain ⟨gx, hgx⟩ : ∃ g, g = w2.heap.size := ⟨_, rfl⟩
              rw [← hgx] at hg
              have HXGx := Lib.hid hgx
              have Gx := Lib.hid hg
              have HV := Lib.hid hV2
              clear ha hg hV2 hgx
              clear HB RK RGx
              have HB := nHB
              have RK := nRK
              have RGx := nRGx
              clear nHB nRK nRGx
              have LEGx := Lib.hid (show W.heap.size ≤ gx from by rw [HXGx.out]; exact LB.out)
              clear LB
              go_upto_region 9 with (refine storeX (.tmp 8) (.tmp 34) _ (askC y aq0) _ tyAsk rfl (askC_one _ _) (heap_alloc_new _ _) rfl rfl rfl rfl rfl ?_; rw [setRowG_fold])
              rw [← HV.out]
              (try rw [← HXGx.out])
              clear HV HXGx
              go_wp2_with (refine loadX (.tmp 8) gx (askC y aq0) tyAsk rfl Gx.out rfl rfl rfl ?_)
              refine (EM.out y _ (HT.out.below HB.out) RGx.out).mono ?_
              rintro e w3 ⟨rfl, hb⟩
              have nHB := Lib.hid (belG HB.out hb HB.out.size)
              have nRK := Lib.hid (RK.out.go hb)
              have nRGx := Lib.hid (RGx.out.go hb)
              have nGx := Lib.hid (Bx.go Gx.out hb)
              clear hb
              clear HB RK RGx Gx
              have HB := nHB
              have RK := nRK
              have RGx := nRGx
              have Gx := nGx
              clear nHB nRK nRGx nGx
              go_wp2_with fail
              refine (EK.out _ (HT.out.below HB.out)).mono ?_
              rintro e w4 ⟨rfl, hb⟩
              have nHB := Lib.hid (belG HB.out hb HB.out.size)
              have nRK := Lib.hid (RK.out.go hb)
              have nRGx := Lib.hid (RGx.out.go hb)
              have nGx := Lib.hid (Bx.go Gx.out hb)
              clear hb
              clear HB RK RGx Gx
              have HB := nHB
              have RK := nRK
              have RGx := nRGx
              have Gx := nGx
              clear nHB nRK nRGx nGx
              go_wp2_with fail
              go_ret
              exact ⟨by first | rfl | (simp; done), HB.out⟩
            · exact absurd ⟨rfl, by omega, by omega, by omega, by omega⟩ hf
  rw [show beginA c s l = (⟨c, s, 8, 3, l⟩, 0) from by unfold beginA; rw [if_pos hf]] at EB
  obtain ⟨q0, hq0⟩ : ∃ q : Aq, q = ⟨c, s, 8, 3, l⟩ := ⟨_, rfl⟩
  rw [← hq0] at EB
  have hR : RightA q0 := by rw [hq0]; exact .inr ⟨hf, (by decide : (1 : Int) ≤ 8), (by decide : (8 : Int) ≤ 8), (by decide : (0 : Int) ≤ 3), (by decide : (3 : Int) ≤ 3)⟩
  have hN : ¬ NoneA q0 := by rw [hq0]; intro h; have h1 : c = 0 := h.1; have := known_64 hf.1; omega
  have hE : endA q0 = 32 := by rw [hq0]; rfl
  have HI0 := Lib.hid (show EndI q0 q0 (3 - 0) 0 from ⟨hR, by rw [if_pos (by omega)]; exact ⟨hN, by omega, rfl, rfl, rfl, by rw [hq0]; rfl⟩⟩)
  have STP := Lib.hid (show ∀ p left (i : Int), EndI q0 p left i → 0 ≤ i → RightA p ∧ ∃ y ag gv, tickA p = (y, ag, gv) ∧ gv = decide (i + 1 = 32) ∧ EndI q0 y (if ag = true then left - 1 else left) (i + 1) ∧ (i < 32 → 0 ≤ left ∧ left ≤ 3) from by
    intro p left i h hi
    obtain ⟨y, ag, gv, h1, h2, h3, h4, h5, h6⟩ := ends_step hR hN h hi
    rw [hE] at h3
    refine ⟨h.1, y, ag, gv, h1, h3, h6, fun k => ?_⟩
    have h7 := h.2
    rw [if_pos (by omega)] at h7
    obtain ⟨g1, -, -, -, -, g2⟩ := h7
    rcases h.1 with q | q
    · exact absurd q g1
    · rw [← g2]; exact q.2.2.2)
  have HEND := Lib.hid (show ∀ p left (i : Int), EndI q0 p left i → 32 ≤ i → p = aq0 ∧ left = 0 from by
    intro p left i h hi
    have h7 := h.2
    rwa [if_neg (by omega)] at h7)
  have ER := Lib.hid (fun y w hT h => aRight_any y q0 w hT hR.s64 (Nat.le_trans hR.few (by decide)) h)
  rw [decide_eq_true hR] at ER
  have EM := Lib.hid (fun c s hc hs y w hT h => aMatch_any y q0 c s w hT hR hc hs h)
  have EM1 := Lib.hid (EM.out c s HCS.out.1 HCS.out.2.1)
  rw [show decide (MatchA q0 c s) = true from decide_eq_true ⟨hN, by rw [hq0], by rw [hq0]⟩] at EM1
  have EM2 := Lib.hid (EM.out o s HCS.out.2.2 HCS.out.2.1)
  rw [show decide (MatchA q0 o s) = (o == c) from by rw [Bool.eq_iff_iff, decide_eq_true_eq, beq_iff_eq]; exact ⟨fun h => by have := h.2.1; rw [hq0] at this; exact this.symm, fun h => ⟨hN, by rw [hq0]; exact h.symm, by rw [hq0]⟩⟩] at EM2
  have EM3 := Lib.hid (EM.out c o HCS.out.1 HCS.out.2.2)
  rw [show decide (MatchA q0 c o) = (o == s) from by rw [Bool.eq_iff_iff, decide_eq_true_eq, beq_iff_eq]; exact ⟨fun h => by have := h.2.2; rw [hq0] at this; exact this.symm, fun h => ⟨hN, by rw [hq0], by rw [hq0]; exact h.symm⟩⟩] at EM3
  have EM4 := Lib.hid (fun y w hT h => aMatch_any y aq0 c s w hT right_none HCS.out.1 HCS.out.2.1 h)
  rw [show decide (MatchA aq0 c s) = false from decide_eq_false (fun h => h.1 ⟨rfl, rfl, rfl, rfl, rfl⟩)] at EM4
  obtain ⟨oc, hoc⟩ : ∃ b, b = (o == c) := ⟨_, rfl⟩
  obtain ⟨os, hos⟩ : ∃ b, b = (o == s) := ⟨_, rfl⟩
  rw [← hoc] at EM2
  rw [← hos] at EM3
  have hoc1 : (o == c) = oc := hoc.symm
  have hos1 : (o == s) = os := hos.symm
  have q1 : (oc == oc) = true := by cases oc <;> rfl
  have q2 : (os == os) = true := by cases os <;> rfl
  clear hq0 hR hN hE hf EM hoc hos hmk EK
  go_wp2_with fail
  refine (EB.out _ (HT.out.below HB.out) RK.out).mono ?_
  rintro e w2 ⟨⟨y0, rfl, hk⟩, hb⟩
  have nHB := Lib.hid (belG HB.out hb HB.out.size)
  have nRK := Lib.hid (RK.out.go hb)
  clear hb
  clear HB RK
  have HB := nHB
  have RK := nRK
  clear nHB nRK
  have RGa := Lib.hid hk
  clear hk
  have LB := Lib.hid HB.out.size
  obtain ⟨V2, hV2⟩ : ∃ V, V = w2.alloc (.cells (askC y0 q0) 24) := ⟨_, rfl⟩
  have ha := (Below.refl w2.heap.size w2).alloc (Nat.le_refl _) (.cells (askC y0 q0) 24)
  have hg := heap_alloc_new w2 (.cells (askC y0 q0) 24)
  have nHB := Lib.hid (HB.out.alloc HB.out.size (.cells (askC y0 q0) 24))
  rw [← hV2] at ha hg nHB
  have nRK := Lib.hid (RK.out.go ha)
  have nRGa := Lib.hid (RGa.out.go ha)
  obtain ⟨ga, hga⟩ : ∃ g, g = w2.heap.size := ⟨_, rfl⟩
  rw [← hga] at hg
  have HXGa := Lib.hid hga
  have Ga := Lib.hid hg
  have HV := Lib.hid hV2
  clear ha hg hV2 hga
  clear HB RK RGa
  have HB := nHB
  have RK := nRK
  have RGa := nRGa
  clear nHB nRK nRGa
  have LEGa := Lib.hid (show W.heap.size ≤ ga from by rw [HXGa.out]; exact LB.out)
  clear LB
  go_upto_region 9 with (refine storeX (.tmp 8) (.tmp 34) _ (askC y0 q0) _ tyAsk rfl (askC_one _ _) (heap_alloc_new _ _) rfl rfl rfl rfl rfl ?_; rw [setRowG_fold])
  rw [← HV.out]
  (try rw [← HXGa.out])
  clear HV HXGa
  have OGa := Ga
  have LB := Lib.hid HB.out.size
  have LTGa := Lib.hid (show ga < V2.heap.size from Bx.lt Ga.out)
  obtain ⟨V3, hV3⟩ : ∃ V, V = V2.alloc (.cells (askC y0 q0) 24) := ⟨_, rfl⟩
  have ha := (Below.refl V2.heap.size V2).alloc (Nat.le_refl _) (.cells (askC y0 q0) 24)
  have hg := heap_alloc_new V2 (.cells (askC y0 q0) 24)
  have nHB := Lib.hid (HB.out.alloc HB.out.size (.cells (askC y0 q0) 24))
  rw [← hV3] at ha hg nHB
  have nRK := Lib.hid (RK.out.go ha)
  have nRGa := Lib.hid (RGa.out.go ha)
  have nGa := Lib.hid (Bx.go Ga.out ha)
  obtain ⟨gx, hgx⟩ : ∃ g, g = V2.heap.size := ⟨_, rfl⟩
  rw [← hgx] at hg
  have HXGx := Lib.hid hgx
  have Gx := Lib.hid hg
  have HV := Lib.hid hV3
  clear ha hg hV3 hgx
  clear HB RK RGa Ga
  have HB := nHB
  have RK := nRK
  have RGa := nRGa
  have Ga := nGa
  clear nHB nRK nRGa nGa
  have LEGx := Lib.hid (show W.heap.size ≤ gx from by rw [HXGx.out]; exact LB.out)
  have NEGaGx := Lib.hid (show ga ≠ gx from by have h1 := LTGa.out; rw [HXGx.out]; omega)
  have NEGxGa := Lib.hid (NEGaGx.out.symm)
  clear LB LTGa
  go_upto_region 12 with (first | (refine loadX (.tmp 8) ga (askC y0 q0) tyAsk rfl OGa.out rfl rfl rfl ?_) | (refine storeX (.tmp 10) (.tmp 69) _ (askC y0 q0) _ tyAsk rfl (askC_one _ _) (heap_alloc_new _ _) rfl rfl rfl rfl rfl ?_; rw [setRowG_fold]))
  rw [← HV.out]
  (try rw [← HXGx.out])
  clear HV HXGx
  clear OGa
  have RX := RGa
  go_wp2_with fail
  go_loopw [11, 12] (fun v11 v12 wr => ∃ (k : Nat) (p : Aq) (y : Wkb) (asked : Int), k ≤ 32 ∧ v11 = .int .i64 asked ∧ v12 = .int .i64 ((k : Int) + 1) ∧ Hid (EndI q0 p (3 - asked) k) ∧ Hid (BxQ wr ga y0 q0) ∧ Hid (BxQ wr gx y p) ∧ Hid (AqR wr y0 q0) ∧ Hid (AqR wr y p) ∧ Hid (Below W.heap.size W wr)) (fun _ v12 _ => (33 - intOf v12).toNat)
  case atStart => exact ⟨0, q0, y0, 0, by omega, rfl, rfl, HI0, Ga, Gx, RGa, RX, HB⟩
  case round =>
  clear Ga Gx RGa RX HB HI0 RK
  obtain ⟨k, p, y, asked, hk, rfl, rfl, HI, Ga, Gx, RGa, RX, HB⟩ := hrel
  obtain ⟨I, hI⟩ : ∃ i, i = (k : Int) + 1 := ⟨_, rfl⟩
  have hI1 : (k : Int) + 1 = I := hI.symm
  have HII := Lib.hid hI
  have i1 : 1 ≤ I := by omega
  have i2 : I ≤ 33 := by omega
  rw [hI1]
  by_cases hlt : I ≤ 32
  · obtain ⟨hrp, q, ag, gv, hq, hgv, hnext, hlf⟩ := STP.out p (3 - asked) k HI.out (by omega)
    have C1 := Lib.hid (fun w hT h => aTick_any y p w hT hrp h)
    rw [hq] at C1
    rw [hI1] at hgv hnext
    have HNX := Lib.hid hnext
    obtain ⟨b0, b1⟩ : 0 ≤ asked ∧ asked ≤ 3 := by have := hlf (by omega); omega
    have hgi : (I == 32) = gv := by
      rw [hgv]
      by_cases h : I = 32
      · rw [decide_eq_true h, h]; rfl
      · rw [decide_eq_false h, beq_eq_false_iff_ne.2 h]
    have hgg : (gv != gv) = false := by cases gv <;> rfl
    clear hrp hq hgv hnext hlf HI hI hI1 HEND STP hk
    go_wp2_with (refine loadX (.tmp 10) gx (askC y p) tyAsk rfl Gx.out rfl rfl rfl ?_)
    refine (C1.out _ (HT.out.below HB.out) RX.out).mono ?_
    rintro e w4 ⟨⟨zz, rfl, hk⟩, hb⟩
    have nHB := Lib.hid (belG HB.out hb HB.out.size)
    have nRGa := Lib.hid (RGa.out.go hb)
    have nRX := Lib.hid (RX.out.go hb)
    have nGa := Lib.hid (Bx.go Ga.out hb)
    have nGx := Lib.hid (Bx.go Gx.out hb)
    clear hb
    clear HB RGa RX Ga Gx
    have HB := nHB
    have RGa := nRGa
    have RX := nRX
    have Ga := nGa
    have Gx := nGx
    clear nHB nRGa nRX nGa nGx
    have RGd := Lib.hid hk
    clear hk
    have LB := Lib.hid HB.out.size
    have LTGa := Lib.hid (show ga < w4.heap.size from Bx.lt Ga.out)
    have LTGx := Lib.hid (show gx < w4.heap.size from Bx.lt Gx.out)
    obtain ⟨V4, hV4⟩ : ∃ V, V = w4.alloc (.cells (askC zz q) 24) := ⟨_, rfl⟩
    have ha := (Below.refl w4.heap.size w4).alloc (Nat.le_refl _) (.cells (askC zz q) 24)
    have hg := heap_alloc_new w4 (.cells (askC zz q) 24)
    have nHB := Lib.hid (HB.out.alloc HB.out.size (.cells (askC zz q) 24))
    rw [← hV4] at ha hg nHB
    have nRGa := Lib.hid (RGa.out.go ha)
    have nRX := Lib.hid (RX.out.go ha)
    have nRGd := Lib.hid (RGd.out.go ha)
    have nGa := Lib.hid (Bx.go Ga.out ha)
    have nGx := Lib.hid (Bx.go Gx.out ha)
    obtain ⟨gd, hgd⟩ : ∃ g, g = w4.heap.size := ⟨_, rfl⟩
    rw [← hgd] at hg
    have HXGd := Lib.hid hgd
    have Gd := Lib.hid hg
    have HV := Lib.hid hV4
    clear ha hg hV4 hgd
    clear HB RGa RX RGd Ga Gx
    have HB := nHB
    have RGa := nRGa
    have RX := nRX
    have RGd := nRGd
    have Ga := nGa
    have Gx := nGx
    clear nHB nRGa nRX nRGd nGa nGx
    have LEGd := Lib.hid (show W.heap.size ≤ gd from by rw [HXGd.out]; exact LB.out)
    have NEGaGd := Lib.hid (show ga ≠ gd from by have h1 := LTGa.out; rw [HXGd.out]; omega)
    have NEGdGa := Lib.hid (NEGaGd.out.symm)
    have NEGxGd := Lib.hid (show gx ≠ gd from by have h1 := LTGx.out; rw [HXGd.out]; omega)
    have NEGdGx := Lib.hid (NEGxGd.out.symm)
    clear LB LTGa LTGx
    go_upto_region 17 with (refine storeX (.tmp 13) (.tmp 77) _ (askC zz q) _ tyAsk rfl (askC_one _ _) (heap_alloc_new _ _) rfl rfl rfl rfl rfl ?_; rw [setRowG_fold])
    rw [← HV.out]
    (try rw [← HXGd.out])
    clear HV HXGd
    clear C1
    cases ag with
    | false =>
      rw [if_neg (by decide)] at HNX
      clear RX
      go_upto_region 21 with (fail)
      go_upto_region 15 with (first | (refine loadX (.tmp 13) gd (askC zz q) tyAsk rfl Gd.out rfl rfl rfl ?_) | (refine storeX (.tmp 10) (.tmp 87) gx (askC zz q) _ tyAsk rfl (askC_one _ _) Gx.out rfl rfl rfl rfl rfl ?_))
      obtain ⟨V5, hV5⟩ : ∃ V, V = V4.setRow gx (askC zz q) := ⟨_, rfl⟩
      have nHB := Lib.hid (show Below W.heap.size W V5 by rw [hV5]; exact Below.setRowG HB.out LEGx.out _)
      have hq := RGa.out.setRow (C' := (askC zz q)) Gx.out (no8_ask _ _)
      rw [← hV5] at hq
      have nRGa := Lib.hid hq
      clear hq
      have hq := RGd.out.setRow (C' := (askC zz q)) Gx.out (no8_ask _ _)
      rw [← hV5] at hq
      have nRGd := Lib.hid hq
      clear hq
      have nGa := Lib.hid (show Bx V5 ga 24 (askC y0 q0) from by rw [hV5]; exact Bx.setRowOther Ga.out NEGaGx.out _)
      have nGx := Lib.hid (show Bx V5 gx 24 (askC zz q) from by rw [hV5]; exact Bx.setRow Gx.out _)
      have nGd := Lib.hid (show Bx V5 gd 24 (askC zz q) from by rw [hV5]; exact Bx.setRowOther Gd.out NEGdGx.out _)
      rw [← hV5]
      clear hV5
      clear HB RGa RGd Ga Gx Gd
      have HB := nHB
      have RGa := nRGa
      have RGd := nRGd
      have Ga := nGa
      have Gx := nGx
      have Gd := nGd
      clear nHB nRGa nRGd nGa nGx nGd
      go_wp2_with fail
      go_roundw
      case rel => exact ⟨k + 1, q, zz, asked, by have := HII.out; omega, by first | rfl | go_num, by (rw [show ((k + 1 : Nat) : Int) = I from by rw [HII.out]; push_cast; rfl]; try go_num), by (rw [show ((k + 1 : Nat) : Int) = I from by rw [HII.out]; push_cast; rfl]; exact HNX), Ga, Gx, RGa, RGd, HB⟩
      case measure => simp [intOf]; omega
    | true =>
      rw [if_pos rfl] at HNX
      clear RX
      go_upto_region 21 with (fail)
      go_upto_region 15 with (first | (refine loadX (.tmp 13) gd (askC zz q) tyAsk rfl Gd.out rfl rfl rfl ?_) | (refine storeX (.tmp 10) (.tmp 87) gx (askC zz q) _ tyAsk rfl (askC_one _ _) Gx.out rfl rfl rfl rfl rfl ?_))
      obtain ⟨V5, hV5⟩ : ∃ V, V = V4.setRow gx (askC zz q) := ⟨_, rfl⟩
      have nHB := Lib.hid (show Below W.heap.size W V5 by rw [hV5]; exact Below.setRowG HB.out LEGx.out _)
      have hq := RGa.out.setRow (C' := (askC zz q)) Gx.out (no8_ask _ _)
      rw [← hV5] at hq
      have nRGa := Lib.hid hq
      clear hq
      have hq := RGd.out.setRow (C' := (askC zz q)) Gx.out (no8_ask _ _)
      rw [← hV5] at hq
      have nRGd := Lib.hid hq
      clear hq
      have nGa := Lib.hid (show Bx V5 ga 24 (askC y0 q0) from by rw [hV5]; exact Bx.setRowOther Ga.out NEGaGx.out _)
      have nGx := Lib.hid (show Bx V5 gx 24 (askC zz q) from by rw [hV5]; exact Bx.setRow Gx.out _)
      have nGd := Lib.hid (show Bx V5 gd 24 (askC zz q) from by rw [hV5]; exact Bx.setRowOther Gd.out NEGdGx.out _)
      rw [← hV5]
      clear hV5
      clear HB RGa RGd Ga Gx Gd
      have HB := nHB
      have RGa := nRGa
      have RGd := nRGd
      have Ga := nGa
      have Gx := nGx
      have Gd := nGd
      clear nHB nRGa nRGd nGa nGx nGd
      go_wp2_with fail
      go_roundw
      case rel => exact ⟨k + 1, q, zz, asked + 1, by have := HII.out; omega, by first | rfl | go_num, by (rw [show ((k + 1 : Nat) : Int) = I from by rw [HII.out]; push_cast; rfl]; try go_num), by (rw [show ((k + 1 : Nat) : Int) = I from by rw [HII.out]; push_cast; rfl]; rw [show 3 - (asked + 1) = 3 - asked - 1 by omega]; exact HNX), Ga, Gx, RGa, RGd, HB⟩
      case measure => simp [intOf]; omega
  · obtain ⟨rfl, h3⟩ := HEND.out p (3 - asked) k HI.out (by omega)
    obtain rfl : asked = 3 := by omega
    clear STP HEND hI hI1 hk HI h3 EB HII
    go_wp2_with (refine loadX (.tmp 8) ga (askC y0 q0) tyAsk rfl Ga.out rfl rfl rfl ?_)
    refine (ER.out y0 _ (HT.out.below HB.out) RGa.out).mono ?_
    rintro e w4 ⟨rfl, hb⟩
    have nHB := Lib.hid (belG HB.out hb HB.out.size)
    have nRGa := Lib.hid (RGa.out.go hb)
    have nRX := Lib.hid (RX.out.go hb)
    have nGa := Lib.hid (Bx.go Ga.out hb)
    have nGx := Lib.hid (Bx.go Gx.out hb)
    clear hb
    clear HB RGa RX Ga Gx
    have HB := nHB
    have RGa := nRGa
    have RX := nRX
    have Ga := nGa
    have Gx := nGx
    clear nHB nRGa nRX nGa nGx
    go_wp2_with (refine loadX (.tmp 8) ga (askC y0 q0) tyAsk rfl Ga.out rfl rfl rfl ?_)
    refine (EM1.out y0 _ (HT.out.below HB.out) RGa.out).mono ?_
    rintro e w5 ⟨rfl, hb⟩
    have nHB := Lib.hid (belG HB.out hb HB.out.size)
    have nRGa := Lib.hid (RGa.out.go hb)
    have nRX := Lib.hid (RX.out.go hb)
    have nGa := Lib.hid (Bx.go Ga.out hb)
    have nGx := Lib.hid (Bx.go Gx.out hb)
    clear hb
    clear HB RGa RX Ga Gx
    have HB := nHB
    have RGa := nRGa
    have RX := nRX
    have Ga := nGa
    have Gx := nGx
    clear nHB nRGa nRX nGa nGx
    go_wp2_with (refine loadX (.tmp 8) ga (askC y0 q0) tyAsk rfl Ga.out rfl rfl rfl ?_)
    refine (EM2.out y0 _ (HT.out.below HB.out) RGa.out).mono ?_
    rintro e w6 ⟨rfl, hb⟩
    have nHB := Lib.hid (belG HB.out hb HB.out.size)
    have nRGa := Lib.hid (RGa.out.go hb)
    have nRX := Lib.hid (RX.out.go hb)
    have nGa := Lib.hid (Bx.go Ga.out hb)
    have nGx := Lib.hid (Bx.go Gx.out hb)
    clear hb
    clear HB RGa RX Ga Gx
    have HB := nHB
    have RGa := nRGa
    have RX := nRX
    have Ga := nGa
    have Gx := nGx
    clear nHB nRGa nRX nGa nGx
    go_wp2_with (refine loadX (.tmp 8) ga (askC y0 q0) tyAsk rfl Ga.out rfl rfl rfl ?_)
    refine (EM3.out y0 _ (HT.out.below HB.out) RGa.out).mono ?_
    rintro e w7 ⟨rfl, hb⟩
    have nHB := Lib.hid (belG HB.out hb HB.out.size)
    have nRGa := Lib.hid (RGa.out.go hb)
    have nRX := Lib.hid (RX.out.go hb)
    have nGa := Lib.hid (Bx.go Ga.out hb)
    have nGx := Lib.hid (Bx.go Gx.out hb)
    clear hb
    clear HB RGa RX Ga Gx
    have HB := nHB
    have RGa := nRGa
    have RX := nRX
    have Ga := nGa
    have Gx := nGx
    clear nHB nRGa nRX nGa nGx
    go_wp2_with (refine loadX (.tmp 10) gx (askC y aq0) tyAsk rfl Gx.out rfl rfl rfl ?_)
    refine (EM4.out y _ (HT.out.below HB.out) RX.out).mono ?_
    rintro e w8 ⟨rfl, hb⟩
    have nHB := Lib.hid (belG HB.out hb HB.out.size)
    have nRGa := Lib.hid (RGa.out.go hb)
    have nRX := Lib.hid (RX.out.go hb)
    have nGa := Lib.hid (Bx.go Ga.out hb)
    have nGx := Lib.hid (Bx.go Gx.out hb)
    clear hb
    clear HB RGa RX Ga Gx
    have HB := nHB
    have RGa := nRGa
    have RX := nRX
    have Ga := nGa
    have Gx := nGx
    clear nHB nRGa nRX nGa nGx
    go_wp2_with fail
    go_ret
    exact ⟨by first | rfl | (simp; done), HB.out⟩
end Go.Proofs.Ytegekmgelnkdbaa
