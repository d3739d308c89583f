
/- FieldCuts' walk. -/
import Derived.Test.YtecdmdgpmbgaaaaDoorFApart
namespace Go.Proofs.YtecdmdgpmbgaaaaDoor
open Go.RowKit

set_option maxRecDepth 100000 in
set_option maxHeartbeats 4000000 in
theorem fieldCuts_walk (no : Int) (A : Option Addr) (v : List UInt8) (c : Nat) (t i : Int) (W : World) (_ : -9223372036854775808 ≤ no ∧ no ≤ 9223372036854775807) (hc : v.length ≤ c) (hcm : c ≤ 9223372036854775807) (hr : Rd W W.heap.size A v) (ht : 0 ≤ t ∧ t ≤ 65535) (_ : -9223372036854775808 ≤ i ∧ i ≤ 9223372036854775807) (hT : Tb W) :
    Calls Tryd.prog 7 #[.agg #[.int .i64 no, .slice A v.length c, .int .u16 t, .int .i64 i]] W fun e W' => e = .returned (.bool true) ∧ Below W.heap.size W W' := by
  have HT := Lib.hid hT
  clear hT
  by_cases h500 : 500 < v.length
  · have i0 : (500 : Int) < (v.length : Int) := by omega
    have R0 := Lib.hid hr
    clear hr
    generalize v.length = m at *
    have HB := Lib.hid (Below.refl W.heap.size W)
    go_enter Tryd.func7, Tryd.ntmps7
    obtain ⟨V0, hV0⟩ : ∃ V, V = W.alloc (.cells #[.int .i64 no, .slice A m c, .int .u16 t, .int .i64 i] 46) := ⟨_, rfl⟩
    have ha := (Below.refl W.heap.size W).alloc (Nat.le_refl _) (.cells #[.int .i64 no, .slice A m c, .int .u16 t, .int .i64 i] 46)
    have hg := heap_alloc_new W (.cells #[.int .i64 no, .slice A m c, .int .u16 t, .int .i64 i] 46)
    have nHB := Lib.hid (HB.out.alloc HB.out.size (.cells #[.int .i64 no, .slice A m c, .int .u16 t, .int .i64 i] 46))
    rw [← hV0] at ha hg nHB
    have nR0 := Lib.hid ((R0.out.below ha (Nat.le_refl _)).more ha.size)
    obtain ⟨gb, hgb⟩ : ∃ g, g = W.heap.size := ⟨_, rfl⟩
    rw [← hgb] at hg
    have HXGB := Lib.hid hgb
    have GB := Lib.hid hg
    have HV := Lib.hid hV0
    clear ha hg hV0 hgb
    clear HB R0
    have HB := nHB
    have R0 := nR0
    clear nHB nR0
    go_wp2_with fail
    rw [← HV.out]
    (try rw [← HXGB.out])
    clear HV HXGB
    clear GB
    refine (shown5_any _ (HT.out.below HB.out)).mono ?_
    rintro e w1 ⟨rfl, hb⟩
    have nHB := Lib.hid (bel5 HB.out hb HB.out.size)
    have nR0 := Lib.hid ((R0.out.below hb (Nat.le_refl _)).more hb.size)
    clear hb
    clear HB R0
    have HB := nHB
    have R0 := nR0
    clear nHB nR0
    go_wp2_with fail
    go_ret
    exact ⟨rfl, HB.out⟩
  have i0 : ¬ (500 : Int) < (v.length : Int) := by omega
  have CO1 := Lib.hid (fun w (ht : Tb w) => fOf_any no w ht)
  have CW1 := Lib.hid (fun w (h : Rd w w.heap.size A v) (ht : Tb w) => fWrite_any no A v c w (by omega) hc hcm h ht)
  have R0 := Lib.hid hr
  have hw1 : (writeL no v).length ≤ 1002 := write_le (by omega)
  have CR := Lib.hid (fun (A1 : Option Addr) (c1 : Nat) (w : World) (h1 : (writeL no v).length ≤ c1) (h2 : c1 ≤ 9223372036854775807) (h : Rd w w.heap.size A1 (writeL no v)) (ht : Tb w) => fRead_any no A1 (writeL no v) c1 i w (by omega) h1 h2 h ht)
  obtain ⟨X, hX⟩ : ∃ X, X = readF no (writeL no v) i := ⟨_, rfl⟩
  rw [← hX] at CR
  by_cases hk : fk no = 0
  · have hE : writeE no v = 12 := by unfold writeE; rw [if_pos hk]
    have e0 : decide (fk no ≠ 0) = false := decide_eq_false (by omega)
    have e1 : X = ([], 0, 12) := by rw [hX]; exact read_none no _ i hk
    rw [e0] at CO1
    rw [hE] at CW1
    rw [e1] at CR
    clear h500 hc hcm hr hX e0 e1 hE hk
    generalize fk no = k at *
    generalize fl no = n at *
    generalize v.length = m at *
    generalize writeL no v = L at *
    generalize L.length = N at *
    have HB := Lib.hid (Below.refl W.heap.size W)
    go_enter Tryd.func7, Tryd.ntmps7
    obtain ⟨V0, hV0⟩ : ∃ V, V = W.alloc (.cells #[.int .i64 no, .slice A m c, .int .u16 t, .int .i64 i] 46) := ⟨_, rfl⟩
    have ha := (Below.refl W.heap.size W).alloc (Nat.le_refl _) (.cells #[.int .i64 no, .slice A m c, .int .u16 t, .int .i64 i] 46)
    have hg := heap_alloc_new W (.cells #[.int .i64 no, .slice A m c, .int .u16 t, .int .i64 i] 46)
    have nHB := Lib.hid (HB.out.alloc HB.out.size (.cells #[.int .i64 no, .slice A m c, .int .u16 t, .int .i64 i] 46))
    rw [← hV0] at ha hg nHB
    have nR0 := Lib.hid ((R0.out.below ha (Nat.le_refl _)).more ha.size)
    obtain ⟨gb, hgb⟩ : ∃ g, g = W.heap.size := ⟨_, rfl⟩
    rw [← hgb] at hg
    have HXGB := Lib.hid hgb
    have GB := Lib.hid hg
    have HV := Lib.hid hV0
    clear ha hg hV0 hgb
    clear HB R0
    have HB := nHB
    have R0 := nR0
    clear nHB nR0
    go_wp2_with fail
    rw [← HV.out]
    (try rw [← HXGB.out])
    clear HV HXGB
    clear GB
    refine (shown5_any _ (HT.out.below HB.out)).mono ?_
    rintro e w1 ⟨rfl, hb⟩
    have nHB := Lib.hid (bel5 HB.out hb HB.out.size)
    have nR0 := Lib.hid ((R0.out.below hb (Nat.le_refl _)).more hb.size)
    clear hb
    clear HB R0
    have HB := nHB
    have R0 := nR0
    clear nHB nR0
    go_wp2_with fail
    refine (CW1.out _ R0.out (HT.out.below HB.out)).mono ?_
    rintro e w2 ⟨⟨A1, c1, rfl, h1a, h1b, h1⟩, hb⟩
    have nHB := Lib.hid (bel5 HB.out hb HB.out.size)
    have nR0 := Lib.hid ((R0.out.below hb (Nat.le_refl _)).more hb.size)
    clear hb
    clear HB R0
    have HB := nHB
    have R0 := nR0
    clear nHB nR0
    have R1 := Lib.hid h1
    clear h1
    go_wp2_with fail
    refine (CO1.out _ (HT.out.below HB.out)).mono ?_
    rintro e w3 ⟨rfl, hb⟩
    have nHB := Lib.hid (bel5 HB.out hb HB.out.size)
    have nR0 := Lib.hid ((R0.out.below hb (Nat.le_refl _)).more hb.size)
    have nR1 := Lib.hid ((R1.out.below hb (Nat.le_refl _)).more hb.size)
    clear hb
    clear HB R0 R1
    have HB := nHB
    have R0 := nR0
    have R1 := nR1
    clear nHB nR0 nR1
    obtain ⟨V3, hV3⟩ : ∃ V, V = w3.alloc (.cells #[.int .i64 (k : Int), .int .i64 (n : Int)] 25) := ⟨_, rfl⟩
    have ha := (Below.refl w3.heap.size w3).alloc (Nat.le_refl _) (.cells #[.int .i64 (k : Int), .int .i64 (n : Int)] 25)
    have hg := heap_alloc_new w3 (.cells #[.int .i64 (k : Int), .int .i64 (n : Int)] 25)
    have nHB := Lib.hid (HB.out.alloc HB.out.size (.cells #[.int .i64 (k : Int), .int .i64 (n : Int)] 25))
    rw [← hV3] at ha hg nHB
    have nR0 := Lib.hid ((R0.out.below ha (Nat.le_refl _)).more ha.size)
    have nR1 := Lib.hid ((R1.out.below ha (Nat.le_refl _)).more ha.size)
    obtain ⟨g10, hg10⟩ : ∃ g, g = w3.heap.size := ⟨_, rfl⟩
    rw [← hg10] at hg
    have HXG10 := Lib.hid hg10
    have G10 := Lib.hid hg
    have HV := Lib.hid hV3
    clear ha hg hV3 hg10
    clear HB R0 R1
    have HB := nHB
    have R0 := nR0
    have R1 := nR1
    clear nHB nR0 nR1
    go_wp2_with fail
    rw [← HV.out]
    (try rw [← HXG10.out])
    clear HV HXG10
    refine (CR.out A1 c1 _ h1a h1b R1.out (HT.out.below HB.out)).mono ?_
    rintro e w4 ⟨⟨A2, c2, rfl, -, -, -⟩, hb⟩
    have nHB := Lib.hid (bel5 HB.out hb HB.out.size)
    have nR0 := Lib.hid ((R0.out.below hb (Nat.le_refl _)).more hb.size)
    have nR1 := Lib.hid ((R1.out.below hb (Nat.le_refl _)).more hb.size)
    have nG10 := Lib.hid (old5 G10.out hb (Nat.le_refl _))
    clear hb
    clear HB R0 R1 G10
    have HB := nHB
    have R0 := nR0
    have R1 := nR1
    have G10 := nG10
    clear nHB nR0 nR1 nG10
    go_wp2_with fail
    go_ret
    exact ⟨rfl, HB.out⟩
  have e0 : decide (fk no ≠ 0) = true := decide_eq_true hk
  rw [e0] at CO1
  have hEA := read_arg no (writeL no v) i hk
  rw [← hX] at hEA
  have hE12 : (writeE no v == 12) = false := by unfold writeE; rw [if_neg hk]; split <;> rfl
  have HOUT := Lib.hid (fun (h : i < 0 ∨ ((writeL no v).length : Int) < i) => (show (X.2.2 == 1) = true from beq_iff_eq.2 (hEA.2 h)))
  have HIN := Lib.hid (fun (h : ¬ (i < 0 ∨ ((writeL no v).length : Int) < i)) => (show (X.2.2 == 1) = false from beq_eq_false_iff_ne.2 (fun h2 => h (hEA.1 h2))))
  cases hfit : fitsF no v with
  | false =>
    obtain ⟨e1, e2⟩ := writeE_no hfit
    have hL : writeL no v = [] := by unfold writeL; rw [hfit]; rfl
    rw [hL] at CW1 CR HOUT HIN
    clear h500 hc hcm hr hX e0 hk hw1 hEA hfit hL
    generalize X.2.2 = X3 at *
    generalize X.2.1 = X2 at *
    generalize X.1 = X1 at *
    generalize fk no = k at *
    generalize fl no = n at *
    generalize v.length = m at *
    generalize writeE no v = E at *
    simp only [List.length_nil] at CW1 CR HOUT HIN
    by_cases ho : i < 0
    · have hx := HOUT.out (.inl ho)
      clear HOUT HIN
      have HB := Lib.hid (Below.refl W.heap.size W)
      go_enter Tryd.func7, Tryd.ntmps7
      obtain ⟨V0, hV0⟩ : ∃ V, V = W.alloc (.cells #[.int .i64 no, .slice A m c, .int .u16 t, .int .i64 i] 46) := ⟨_, rfl⟩
      have ha := (Below.refl W.heap.size W).alloc (Nat.le_refl _) (.cells #[.int .i64 no, .slice A m c, .int .u16 t, .int .i64 i] 46)
      have hg := heap_alloc_new W (.cells #[.int .i64 no, .slice A m c, .int .u16 t, .int .i64 i] 46)
      have nHB := Lib.hid (HB.out.alloc HB.out.size (.cells #[.int .i64 no, .slice A m c, .int .u16 t, .int .i64 i] 46))
      rw [← hV0] at ha hg nHB
      have nR0 := Lib.hid ((R0.out.below ha (Nat.le_refl _)).more ha.size)
      obtain ⟨gb, hgb⟩ : ∃ g, g = W.heap.size := ⟨_, rfl⟩
      rw [← hgb] at hg
      have HXGB := Lib.hid hgb
      have GB := Lib.hid hg
      have HV := Lib.hid hV0
      clear ha hg hV0 hgb
      clear HB R0
      have HB := nHB
      have R0 := nR0
      clear nHB nR0
      go_wp2_with fail
      rw [← HV.out]
      (try rw [← HXGB.out])
      clear HV HXGB
      clear GB
      refine (shown5_any _ (HT.out.below HB.out)).mono ?_
      rintro e w1 ⟨rfl, hb⟩
      have nHB := Lib.hid (bel5 HB.out hb HB.out.size)
      have nR0 := Lib.hid ((R0.out.below hb (Nat.le_refl _)).more hb.size)
      clear hb
      clear HB R0
      have HB := nHB
      have R0 := nR0
      clear nHB nR0
      go_wp2_with fail
      refine (CW1.out _ R0.out (HT.out.below HB.out)).mono ?_
      rintro e w2 ⟨⟨A1, c1, rfl, h1a, h1b, h1⟩, hb⟩
      have nHB := Lib.hid (bel5 HB.out hb HB.out.size)
      have nR0 := Lib.hid ((R0.out.below hb (Nat.le_refl _)).more hb.size)
      clear hb
      clear HB R0
      have HB := nHB
      have R0 := nR0
      clear nHB nR0
      have R1 := Lib.hid h1
      clear h1
      go_wp2_with fail
      refine (CO1.out _ (HT.out.below HB.out)).mono ?_
      rintro e w3 ⟨rfl, hb⟩
      have nHB := Lib.hid (bel5 HB.out hb HB.out.size)
      have nR0 := Lib.hid ((R0.out.below hb (Nat.le_refl _)).more hb.size)
      have nR1 := Lib.hid ((R1.out.below hb (Nat.le_refl _)).more hb.size)
      clear hb
      clear HB R0 R1
      have HB := nHB
      have R0 := nR0
      have R1 := nR1
      clear nHB nR0 nR1
      obtain ⟨V3, hV3⟩ : ∃ V, V = w3.alloc (.cells #[.int .i64 (k : Int), .int .i64 (n : Int)] 25) := ⟨_, rfl⟩
      have ha := (Below.refl w3.heap.size w3).alloc (Nat.le_refl _) (.cells #[.int .i64 (k : Int), .int .i64 (n : Int)] 25)
      have hg := heap_alloc_new w3 (.cells #[.int .i64 (k : Int), .int .i64 (n : Int)] 25)
      have nHB := Lib.hid (HB.out.alloc HB.out.size (.cells #[.int .i64 (k : Int), .int .i64 (n : Int)] 25))
      rw [← hV3] at ha hg nHB
      have nR0 := Lib.hid ((R0.out.below ha (Nat.le_refl _)).more ha.size)
      have nR1 := Lib.hid ((R1.out.below ha (Nat.le_refl _)).more ha.size)
      obtain ⟨g10, hg10⟩ : ∃ g, g = w3.heap.size := ⟨_, rfl⟩
      rw [← hg10] at hg
      have HXG10 := Lib.hid hg10
      have G10 := Lib.hid hg
      have HV := Lib.hid hV3
      clear ha hg hV3 hg10
      clear HB R0 R1
      have HB := nHB
      have R0 := nR0
      have R1 := nR1
      clear nHB nR0 nR1
      go_wp2_with fail
      rw [← HV.out]
      (try rw [← HXG10.out])
      clear HV HXG10
      refine (CR.out A1 c1 _ h1a h1b R1.out (HT.out.below HB.out)).mono ?_
      rintro e w4 ⟨⟨A2, c2, rfl, -, -, -⟩, hb⟩
      have nHB := Lib.hid (bel5 HB.out hb HB.out.size)
      have nR0 := Lib.hid ((R0.out.below hb (Nat.le_refl _)).more hb.size)
      have nR1 := Lib.hid ((R1.out.below hb (Nat.le_refl _)).more hb.size)
      have nG10 := Lib.hid (old5 G10.out hb (Nat.le_refl _))
      clear hb
      clear HB R0 R1 G10
      have HB := nHB
      have R0 := nR0
      have R1 := nR1
      have G10 := nG10
      clear nHB nR0 nR1 nG10
      go_wp2_with fail
      go_ret
      exact ⟨by first | rfl | simp, HB.out⟩
    by_cases ho2 : (0 : Int) < i
    · have hx := HOUT.out (.inr (by omega))
      clear HOUT HIN
      have HB := Lib.hid (Below.refl W.heap.size W)
      go_enter Tryd.func7, Tryd.ntmps7
      obtain ⟨V0, hV0⟩ : ∃ V, V = W.alloc (.cells #[.int .i64 no, .slice A m c, .int .u16 t, .int .i64 i] 46) := ⟨_, rfl⟩
      have ha := (Below.refl W.heap.size W).alloc (Nat.le_refl _) (.cells #[.int .i64 no, .slice A m c, .int .u16 t, .int .i64 i] 46)
      have hg := heap_alloc_new W (.cells #[.int .i64 no, .slice A m c, .int .u16 t, .int .i64 i] 46)
      have nHB := Lib.hid (HB.out.alloc HB.out.size (.cells #[.int .i64 no, .slice A m c, .int .u16 t, .int .i64 i] 46))
      rw [← hV0] at ha hg nHB
      have nR0 := Lib.hid ((R0.out.below ha (Nat.le_refl _)).more ha.size)
      obtain ⟨gb, hgb⟩ : ∃ g, g = W.heap.size := ⟨_, rfl⟩
      rw [← hgb] at hg
      have HXGB := Lib.hid hgb
      have GB := Lib.hid hg
      have HV := Lib.hid hV0
      clear ha hg hV0 hgb
      clear HB R0
      have HB := nHB
      have R0 := nR0
      clear nHB nR0
      go_wp2_with fail
      rw [← HV.out]
      (try rw [← HXGB.out])
      clear HV HXGB
      clear GB
      refine (shown5_any _ (HT.out.below HB.out)).mono ?_
      rintro e w1 ⟨rfl, hb⟩
      have nHB := Lib.hid (bel5 HB.out hb HB.out.size)
      have nR0 := Lib.hid ((R0.out.below hb (Nat.le_refl _)).more hb.size)
      clear hb
      clear HB R0
      have HB := nHB
      have R0 := nR0
      clear nHB nR0
      go_wp2_with fail
      refine (CW1.out _ R0.out (HT.out.below HB.out)).mono ?_
      rintro e w2 ⟨⟨A1, c1, rfl, h1a, h1b, h1⟩, hb⟩
      have nHB := Lib.hid (bel5 HB.out hb HB.out.size)
      have nR0 := Lib.hid ((R0.out.below hb (Nat.le_refl _)).more hb.size)
      clear hb
      clear HB R0
      have HB := nHB
      have R0 := nR0
      clear nHB nR0
      have R1 := Lib.hid h1
      clear h1
      go_wp2_with fail
      refine (CO1.out _ (HT.out.below HB.out)).mono ?_
      rintro e w3 ⟨rfl, hb⟩
      have nHB := Lib.hid (bel5 HB.out hb HB.out.size)
      have nR0 := Lib.hid ((R0.out.below hb (Nat.le_refl _)).more hb.size)
      have nR1 := Lib.hid ((R1.out.below hb (Nat.le_refl _)).more hb.size)
      clear hb
      clear HB R0 R1
      have HB := nHB
      have R0 := nR0
      have R1 := nR1
      clear nHB nR0 nR1
      obtain ⟨V3, hV3⟩ : ∃ V, V = w3.alloc (.cells #[.int .i64 (k : Int), .int .i64 (n : Int)] 25) := ⟨_, rfl⟩
      have ha := (Below.refl w3.heap.size w3).alloc (Nat.le_refl _) (.cells #[.int .i64 (k : Int), .int .i64 (n : Int)] 25)
      have hg := heap_alloc_new w3 (.cells #[.int .i64 (k : Int), .int .i64 (n : Int)] 25)
      have nHB := Lib.hid (HB.out.alloc HB.out.size (.cells #[.int .i64 (k : Int), .int .i64 (n : Int)] 25))
      rw [← hV3] at ha hg nHB
      have nR0 := Lib.hid ((R0.out.below ha (Nat.le_refl _)).more ha.size)
      have nR1 := Lib.hid ((R1.out.below ha (Nat.le_refl _)).more ha.size)
      obtain ⟨g10, hg10⟩ : ∃ g, g = w3.heap.size := ⟨_, rfl⟩
      rw [← hg10] at hg
      have HXG10 := Lib.hid hg10
      have G10 := Lib.hid hg
      have HV := Lib.hid hV3
      clear ha hg hV3 hg10
      clear HB R0 R1
      have HB := nHB
      have R0 := nR0
      have R1 := nR1
      clear nHB nR0 nR1
      go_wp2_with fail
      rw [← HV.out]
      (try rw [← HXG10.out])
      clear HV HXG10
      refine (CR.out A1 c1 _ h1a h1b R1.out (HT.out.below HB.out)).mono ?_
      rintro e w4 ⟨⟨A2, c2, rfl, -, -, -⟩, hb⟩
      have nHB := Lib.hid (bel5 HB.out hb HB.out.size)
      have nR0 := Lib.hid ((R0.out.below hb (Nat.le_refl _)).more hb.size)
      have nR1 := Lib.hid ((R1.out.below hb (Nat.le_refl _)).more hb.size)
      have nG10 := Lib.hid (old5 G10.out hb (Nat.le_refl _))
      clear hb
      clear HB R0 R1 G10
      have HB := nHB
      have R0 := nR0
      have R1 := nR1
      have G10 := nG10
      clear nHB nR0 nR1 nG10
      go_wp2_with fail
      go_ret
      exact ⟨by first | rfl | simp, HB.out⟩
    have hx := HIN.out (by omega)
    clear HOUT HIN
    have HB := Lib.hid (Below.refl W.heap.size W)
    go_enter Tryd.func7, Tryd.ntmps7
    obtain ⟨V0, hV0⟩ : ∃ V, V = W.alloc (.cells #[.int .i64 no, .slice A m c, .int .u16 t, .int .i64 i] 46) := ⟨_, rfl⟩
    have ha := (Below.refl W.heap.size W).alloc (Nat.le_refl _) (.cells #[.int .i64 no, .slice A m c, .int .u16 t, .int .i64 i] 46)
    have hg := heap_alloc_new W (.cells #[.int .i64 no, .slice A m c, .int .u16 t, .int .i64 i] 46)
    have nHB := Lib.hid (HB.out.alloc HB.out.size (.cells #[.int .i64 no, .slice A m c, .int .u16 t, .int .i64 i] 46))
    rw [← hV0] at ha hg nHB
    have nR0 := Lib.hid ((R0.out.below ha (Nat.le_refl _)).more ha.size)
    obtain ⟨gb, hgb⟩ : ∃ g, g = W.heap.size := ⟨_, rfl⟩
    rw [← hgb] at hg
    have HXGB := Lib.hid hgb
    have GB := Lib.hid hg
    have HV := Lib.hid hV0
    clear ha hg hV0 hgb
    clear HB R0
    have HB := nHB
    have R0 := nR0
    clear nHB nR0
    go_wp2_with fail
    rw [← HV.out]
    (try rw [← HXGB.out])
    clear HV HXGB
    clear GB
    refine (shown5_any _ (HT.out.below HB.out)).mono ?_
    rintro e w1 ⟨rfl, hb⟩
    have nHB := Lib.hid (bel5 HB.out hb HB.out.size)
    have nR0 := Lib.hid ((R0.out.below hb (Nat.le_refl _)).more hb.size)
    clear hb
    clear HB R0
    have HB := nHB
    have R0 := nR0
    clear nHB nR0
    go_wp2_with fail
    refine (CW1.out _ R0.out (HT.out.below HB.out)).mono ?_
    rintro e w2 ⟨⟨A1, c1, rfl, h1a, h1b, h1⟩, hb⟩
    have nHB := Lib.hid (bel5 HB.out hb HB.out.size)
    have nR0 := Lib.hid ((R0.out.below hb (Nat.le_refl _)).more hb.size)
    clear hb
    clear HB R0
    have HB := nHB
    have R0 := nR0
    clear nHB nR0
    have R1 := Lib.hid h1
    clear h1
    go_wp2_with fail
    refine (CO1.out _ (HT.out.below HB.out)).mono ?_
    rintro e w3 ⟨rfl, hb⟩
    have nHB := Lib.hid (bel5 HB.out hb HB.out.size)
    have nR0 := Lib.hid ((R0.out.below hb (Nat.le_refl _)).more hb.size)
    have nR1 := Lib.hid ((R1.out.below hb (Nat.le_refl _)).more hb.size)
    clear hb
    clear HB R0 R1
    have HB := nHB
    have R0 := nR0
    have R1 := nR1
    clear nHB nR0 nR1
    obtain ⟨V3, hV3⟩ : ∃ V, V = w3.alloc (.cells #[.int .i64 (k : Int), .int .i64 (n : Int)] 25) := ⟨_, rfl⟩
    have ha := (Below.refl w3.heap.size w3).alloc (Nat.le_refl _) (.cells #[.int .i64 (k : Int), .int .i64 (n : Int)] 25)
    have hg := heap_alloc_new w3 (.cells #[.int .i64 (k : Int), .int .i64 (n : Int)] 25)
    have nHB := Lib.hid (HB.out.alloc HB.out.size (.cells #[.int .i64 (k : Int), .int .i64 (n : Int)] 25))
    rw [← hV3] at ha hg nHB
    have nR0 := Lib.hid ((R0.out.below ha (Nat.le_refl _)).more ha.size)
    have nR1 := Lib.hid ((R1.out.below ha (Nat.le_refl _)).more ha.size)
    obtain ⟨g10, hg10⟩ : ∃ g, g = w3.heap.size := ⟨_, rfl⟩
    rw [← hg10] at hg
    have HXG10 := Lib.hid hg10
    have G10 := Lib.hid hg
    have HV := Lib.hid hV3
    clear ha hg hV3 hg10
    clear HB R0 R1
    have HB := nHB
    have R0 := nR0
    have R1 := nR1
    clear nHB nR0 nR1
    go_wp2_with fail
    rw [← HV.out]
    (try rw [← HXG10.out])
    clear HV HXG10
    refine (CR.out A1 c1 _ h1a h1b R1.out (HT.out.below HB.out)).mono ?_
    rintro e w4 ⟨⟨A2, c2, rfl, -, -, -⟩, hb⟩
    have nHB := Lib.hid (bel5 HB.out hb HB.out.size)
    have nR0 := Lib.hid ((R0.out.below hb (Nat.le_refl _)).more hb.size)
    have nR1 := Lib.hid ((R1.out.below hb (Nat.le_refl _)).more hb.size)
    have nG10 := Lib.hid (old5 G10.out hb (Nat.le_refl _))
    clear hb
    clear HB R0 R1 G10
    have HB := nHB
    have R0 := nR0
    have R1 := nR1
    have G10 := nG10
    clear nHB nR0 nR1 nG10
    go_wp2_with fail
    go_ret
    exact ⟨by first | rfl | simp, HB.out⟩
  | true =>
    have e1 := writeE_yes hfit
    rw [e1] at CW1
    obtain ⟨z1, z2, z3, z4, z5⟩ := fits_some hfit
    have hlen := write_len hfit
    have hN0 : 0 < (writeL no v).length := by
      rw [hlen]; unfold sizeF; split <;> omega
    obtain ⟨tn, rfl⟩ := Int.eq_ofNat_of_zero_le ht.1
    obtain ⟨q, hq⟩ : ∃ q, q = tn % (writeL no v).length := ⟨_, rfl⟩
    have hqN : q < (writeL no v).length := by rw [hq]; exact Nat.mod_lt _ hN0
    have i4 : (tn : Int).tmod ((writeL no v).length : Int) = (q : Int) := by rw [Int.tmod_eq_emod_of_nonneg (by omega), hq]; push_cast; rfl
    have i5 : (tn : Int) % ((writeL no v).length : Int) = (q : Int) := by rw [hq]; push_cast; rfl
    have CC := Lib.hid (fun (A1 : Option Addr) (c1 : Nat) (w : World) (h1 : (writeL no v).length ≤ c1) (h2 : c1 ≤ 9223372036854775807) (h : Rd w w.heap.size A1 (writeL no v)) (ht : Tb w) => (show Calls Tryd.prog 18 #[.int .i64 no, .slice A1 q c1, .int .i64 0] w fun e W' => (∃ l n' i', Ans3 W' e l n' i' 3) ∧ Below w.heap.size w W' from by
      have h9 := fRead_any no A1 ((writeL no v).take q) c1 0 w (by rw [List.length_take]; omega) (by rw [List.length_take]; omega) h2 (rd_take5 h q) ht
      rw [show ((writeL no v).take q).length = q by rw [List.length_take]; omega, read_cut q hfit hqN] at h9
      exact h9.mono fun e W' h => ⟨⟨_, _, _, h.1⟩, h.2⟩))
    have ht2 := ht.2
    clear h500 hc hcm hr hX e0 hk hEA hfit e1 z1 z2 z3 z4 z5 hlen hq ht hE12
    generalize X.2.2 = X3 at *
    generalize X.2.1 = X2 at *
    generalize X.1 = X1 at *
    generalize fk no = k at *
    generalize fl no = n at *
    generalize v.length = m at *
    generalize writeL no v = L at *
    generalize L.length = N at *
    have j1 : ¬ (N : Int) = 0 := by omega
    have j2 : (q : Int) < (N : Int) := by omega
    have j3 : (0 : Int) ≤ (q : Int) := by omega
    have j4 : ((N : Int) == 0) = false := beq_eq_false_iff_ne.2 (by omega)
    by_cases ho : i < 0
    · have hx := HOUT.out (.inl ho)
      clear HOUT HIN
      have HB := Lib.hid (Below.refl W.heap.size W)
      go_enter Tryd.func7, Tryd.ntmps7
      obtain ⟨V0, hV0⟩ : ∃ V, V = W.alloc (.cells #[.int .i64 no, .slice A m c, .int .u16 (tn : Int), .int .i64 i] 46) := ⟨_, rfl⟩
      have ha := (Below.refl W.heap.size W).alloc (Nat.le_refl _) (.cells #[.int .i64 no, .slice A m c, .int .u16 (tn : Int), .int .i64 i] 46)
      have hg := heap_alloc_new W (.cells #[.int .i64 no, .slice A m c, .int .u16 (tn : Int), .int .i64 i] 46)
      have nHB := Lib.hid (HB.out.alloc HB.out.size (.cells #[.int .i64 no, .slice A m c, .int .u16 (tn : Int), .int .i64 i] 46))
      rw [← hV0] at ha hg nHB
      have nR0 := Lib.hid ((R0.out.below ha (Nat.le_refl _)).more ha.size)
      obtain ⟨gb, hgb⟩ : ∃ g, g = W.heap.size := ⟨_, rfl⟩
      rw [← hgb] at hg
      have HXGB := Lib.hid hgb
      have GB := Lib.hid hg
      have HV := Lib.hid hV0
      clear ha hg hV0 hgb
      clear HB R0
      have HB := nHB
      have R0 := nR0
      clear nHB nR0
      go_wp2_with fail
      rw [← HV.out]
      (try rw [← HXGB.out])
      clear HV HXGB
      clear GB
      refine (shown5_any _ (HT.out.below HB.out)).mono ?_
      rintro e w1 ⟨rfl, hb⟩
      have nHB := Lib.hid (bel5 HB.out hb HB.out.size)
      have nR0 := Lib.hid ((R0.out.below hb (Nat.le_refl _)).more hb.size)
      clear hb
      clear HB R0
      have HB := nHB
      have R0 := nR0
      clear nHB nR0
      go_wp2_with fail
      refine (CW1.out _ R0.out (HT.out.below HB.out)).mono ?_
      rintro e w2 ⟨⟨A1, c1, rfl, h1a, h1b, h1⟩, hb⟩
      have nHB := Lib.hid (bel5 HB.out hb HB.out.size)
      have nR0 := Lib.hid ((R0.out.below hb (Nat.le_refl _)).more hb.size)
      clear hb
      clear HB R0
      have HB := nHB
      have R0 := nR0
      clear nHB nR0
      have R1 := Lib.hid h1
      clear h1
      go_wp2_with fail
      refine (CO1.out _ (HT.out.below HB.out)).mono ?_
      rintro e w3 ⟨rfl, hb⟩
      have nHB := Lib.hid (bel5 HB.out hb HB.out.size)
      have nR0 := Lib.hid ((R0.out.below hb (Nat.le_refl _)).more hb.size)
      have nR1 := Lib.hid ((R1.out.below hb (Nat.le_refl _)).more hb.size)
      clear hb
      clear HB R0 R1
      have HB := nHB
      have R0 := nR0
      have R1 := nR1
      clear nHB nR0 nR1
      obtain ⟨V3, hV3⟩ : ∃ V, V = w3.alloc (.cells #[.int .i64 (k : Int), .int .i64 (n : Int)] 25) := ⟨_, rfl⟩
      have ha := (Below.refl w3.heap.size w3).alloc (Nat.le_refl _) (.cells #[.int .i64 (k : Int), .int .i64 (n : Int)] 25)
      have hg := heap_alloc_new w3 (.cells #[.int .i64 (k : Int), .int .i64 (n : Int)] 25)
      have nHB := Lib.hid (HB.out.alloc HB.out.size (.cells #[.int .i64 (k : Int), .int .i64 (n : Int)] 25))
      rw [← hV3] at ha hg nHB
      have nR0 := Lib.hid ((R0.out.below ha (Nat.le_refl _)).more ha.size)
      have nR1 := Lib.hid ((R1.out.below ha (Nat.le_refl _)).more ha.size)
      obtain ⟨g10, hg10⟩ : ∃ g, g = w3.heap.size := ⟨_, rfl⟩
      rw [← hg10] at hg
      have HXG10 := Lib.hid hg10
      have G10 := Lib.hid hg
      have HV := Lib.hid hV3
      clear ha hg hV3 hg10
      clear HB R0 R1
      have HB := nHB
      have R0 := nR0
      have R1 := nR1
      clear nHB nR0 nR1
      go_wp2_with fail
      rw [← HV.out]
      (try rw [← HXG10.out])
      clear HV HXG10
      refine (CR.out A1 c1 _ h1a h1b R1.out (HT.out.below HB.out)).mono ?_
      rintro e w4 ⟨⟨A2, c2, rfl, -, -, -⟩, hb⟩
      have nHB := Lib.hid (bel5 HB.out hb HB.out.size)
      have nR0 := Lib.hid ((R0.out.below hb (Nat.le_refl _)).more hb.size)
      have nR1 := Lib.hid ((R1.out.below hb (Nat.le_refl _)).more hb.size)
      have nG10 := Lib.hid (old5 G10.out hb (Nat.le_refl _))
      clear hb
      clear HB R0 R1 G10
      have HB := nHB
      have R0 := nR0
      have R1 := nR1
      have G10 := nG10
      clear nHB nR0 nR1 nG10
      have j5 : (q : Int) ≤ (c1 : Int) := by omega
      go_wp2_with fail
      refine (CC.out A1 c1 _ h1a h1b R1.out (HT.out.below HB.out)).mono ?_
      rintro e w5 ⟨⟨l3, n3, i3, A3, c3, rfl, -, -, -⟩, hb⟩
      have nHB := Lib.hid (bel5 HB.out hb HB.out.size)
      have nR0 := Lib.hid ((R0.out.below hb (Nat.le_refl _)).more hb.size)
      have nR1 := Lib.hid ((R1.out.below hb (Nat.le_refl _)).more hb.size)
      have nG10 := Lib.hid (old5 G10.out hb (Nat.le_refl _))
      clear hb
      clear HB R0 R1 G10
      have HB := nHB
      have R0 := nR0
      have R1 := nR1
      have G10 := nG10
      clear nHB nR0 nR1 nG10
      go_wp2_with fail
      go_ret
      exact ⟨by first | rfl | simp, HB.out⟩
    by_cases ho2 : (N : Int) < i
    · have hx := HOUT.out (.inr ho2)
      clear HOUT HIN
      have HB := Lib.hid (Below.refl W.heap.size W)
      go_enter Tryd.func7, Tryd.ntmps7
      obtain ⟨V0, hV0⟩ : ∃ V, V = W.alloc (.cells #[.int .i64 no, .slice A m c, .int .u16 (tn : Int), .int .i64 i] 46) := ⟨_, rfl⟩
      have ha := (Below.refl W.heap.size W).alloc (Nat.le_refl _) (.cells #[.int .i64 no, .slice A m c, .int .u16 (tn : Int), .int .i64 i] 46)
      have hg := heap_alloc_new W (.cells #[.int .i64 no, .slice A m c, .int .u16 (tn : Int), .int .i64 i] 46)
      have nHB := Lib.hid (HB.out.alloc HB.out.size (.cells #[.int .i64 no, .slice A m c, .int .u16 (tn : Int), .int .i64 i] 46))
      rw [← hV0] at ha hg nHB
      have nR0 := Lib.hid ((R0.out.below ha (Nat.le_refl _)).more ha.size)
      obtain ⟨gb, hgb⟩ : ∃ g, g = W.heap.size := ⟨_, rfl⟩
      rw [← hgb] at hg
      have HXGB := Lib.hid hgb
      have GB := Lib.hid hg
      have HV := Lib.hid hV0
      clear ha hg hV0 hgb
      clear HB R0
      have HB := nHB
      have R0 := nR0
      clear nHB nR0
      go_wp2_with fail
      rw [← HV.out]
      (try rw [← HXGB.out])
      clear HV HXGB
      clear GB
      refine (shown5_any _ (HT.out.below HB.out)).mono ?_
      rintro e w1 ⟨rfl, hb⟩
      have nHB := Lib.hid (bel5 HB.out hb HB.out.size)
      have nR0 := Lib.hid ((R0.out.below hb (Nat.le_refl _)).more hb.size)
      clear hb
      clear HB R0
      have HB := nHB
      have R0 := nR0
      clear nHB nR0
      go_wp2_with fail
      refine (CW1.out _ R0.out (HT.out.below HB.out)).mono ?_
      rintro e w2 ⟨⟨A1, c1, rfl, h1a, h1b, h1⟩, hb⟩
      have nHB := Lib.hid (bel5 HB.out hb HB.out.size)
      have nR0 := Lib.hid ((R0.out.below hb (Nat.le_refl _)).more hb.size)
      clear hb
      clear HB R0
      have HB := nHB
      have R0 := nR0
      clear nHB nR0
      have R1 := Lib.hid h1
      clear h1
      go_wp2_with fail
      refine (CO1.out _ (HT.out.below HB.out)).mono ?_
      rintro e w3 ⟨rfl, hb⟩
      have nHB := Lib.hid (bel5 HB.out hb HB.out.size)
      have nR0 := Lib.hid ((R0.out.below hb (Nat.le_refl _)).more hb.size)
      have nR1 := Lib.hid ((R1.out.below hb (Nat.le_refl _)).more hb.size)
      clear hb
      clear HB R0 R1
      have HB := nHB
      have R0 := nR0
      have R1 := nR1
      clear nHB nR0 nR1
      obtain ⟨V3, hV3⟩ : ∃ V, V = w3.alloc (.cells #[.int .i64 (k : Int), .int .i64 (n : Int)] 25) := ⟨_, rfl⟩
      have ha := (Below.refl w3.heap.size w3).alloc (Nat.le_refl _) (.cells #[.int .i64 (k : Int), .int .i64 (n : Int)] 25)
      have hg := heap_alloc_new w3 (.cells #[.int .i64 (k : Int), .int .i64 (n : Int)] 25)
      have nHB := Lib.hid (HB.out.alloc HB.out.size (.cells #[.int .i64 (k : Int), .int .i64 (n : Int)] 25))
      rw [← hV3] at ha hg nHB
      have nR0 := Lib.hid ((R0.out.below ha (Nat.le_refl _)).more ha.size)
      have nR1 := Lib.hid ((R1.out.below ha (Nat.le_refl _)).more ha.size)
      obtain ⟨g10, hg10⟩ : ∃ g, g = w3.heap.size := ⟨_, rfl⟩
      rw [← hg10] at hg
      have HXG10 := Lib.hid hg10
      have G10 := Lib.hid hg
      have HV := Lib.hid hV3
      clear ha hg hV3 hg10
      clear HB R0 R1
      have HB := nHB
      have R0 := nR0
      have R1 := nR1
      clear nHB nR0 nR1
      go_wp2_with fail
      rw [← HV.out]
      (try rw [← HXG10.out])
      clear HV HXG10
      refine (CR.out A1 c1 _ h1a h1b R1.out (HT.out.below HB.out)).mono ?_
      rintro e w4 ⟨⟨A2, c2, rfl, -, -, -⟩, hb⟩
      have nHB := Lib.hid (bel5 HB.out hb HB.out.size)
      have nR0 := Lib.hid ((R0.out.below hb (Nat.le_refl _)).more hb.size)
      have nR1 := Lib.hid ((R1.out.below hb (Nat.le_refl _)).more hb.size)
      have nG10 := Lib.hid (old5 G10.out hb (Nat.le_refl _))
      clear hb
      clear HB R0 R1 G10
      have HB := nHB
      have R0 := nR0
      have R1 := nR1
      have G10 := nG10
      clear nHB nR0 nR1 nG10
      have j5 : (q : Int) ≤ (c1 : Int) := by omega
      go_wp2_with fail
      refine (CC.out A1 c1 _ h1a h1b R1.out (HT.out.below HB.out)).mono ?_
      rintro e w5 ⟨⟨l3, n3, i3, A3, c3, rfl, -, -, -⟩, hb⟩
      have nHB := Lib.hid (bel5 HB.out hb HB.out.size)
      have nR0 := Lib.hid ((R0.out.below hb (Nat.le_refl _)).more hb.size)
      have nR1 := Lib.hid ((R1.out.below hb (Nat.le_refl _)).more hb.size)
      have nG10 := Lib.hid (old5 G10.out hb (Nat.le_refl _))
      clear hb
      clear HB R0 R1 G10
      have HB := nHB
      have R0 := nR0
      have R1 := nR1
      have G10 := nG10
      clear nHB nR0 nR1 nG10
      go_wp2_with fail
      go_ret
      exact ⟨by first | rfl | simp, HB.out⟩
    have hx := HIN.out (by omega)
    clear HOUT HIN
    have HB := Lib.hid (Below.refl W.heap.size W)
    go_enter Tryd.func7, Tryd.ntmps7
    obtain ⟨V0, hV0⟩ : ∃ V, V = W.alloc (.cells #[.int .i64 no, .slice A m c, .int .u16 (tn : Int), .int .i64 i] 46) := ⟨_, rfl⟩
    have ha := (Below.refl W.heap.size W).alloc (Nat.le_refl _) (.cells #[.int .i64 no, .slice A m c, .int .u16 (tn : Int), .int .i64 i] 46)
    have hg := heap_alloc_new W (.cells #[.int .i64 no, .slice A m c, .int .u16 (tn : Int), .int .i64 i] 46)
    have nHB := Lib.hid (HB.out.alloc HB.out.size (.cells #[.int .i64 no, .slice A m c, .int .u16 (tn : Int), .int .i64 i] 46))
    rw [← hV0] at ha hg nHB
    have nR0 := Lib.hid ((R0.out.below ha (Nat.le_refl _)).more ha.size)
    obtain ⟨gb, hgb⟩ : ∃ g, g = W.heap.size := ⟨_, rfl⟩
    rw [← hgb] at hg
    have HXGB := Lib.hid hgb
    have GB := Lib.hid hg
    have HV := Lib.hid hV0
    clear ha hg hV0 hgb
    clear HB R0
    have HB := nHB
    have R0 := nR0
    clear nHB nR0
    go_wp2_with fail
    rw [← HV.out]
    (try rw [← HXGB.out])
    clear HV HXGB
    clear GB
    refine (shown5_any _ (HT.out.below HB.out)).mono ?_
    rintro e w1 ⟨rfl, hb⟩
    have nHB := Lib.hid (bel5 HB.out hb HB.out.size)
    have nR0 := Lib.hid ((R0.out.below hb (Nat.le_refl _)).more hb.size)
    clear hb
    clear HB R0
    have HB := nHB
    have R0 := nR0
    clear nHB nR0
    go_wp2_with fail
    refine (CW1.out _ R0.out (HT.out.below HB.out)).mono ?_
    rintro e w2 ⟨⟨A1, c1, rfl, h1a, h1b, h1⟩, hb⟩
    have nHB := Lib.hid (bel5 HB.out hb HB.out.size)
    have nR0 := Lib.hid ((R0.out.below hb (Nat.le_refl _)).more hb.size)
    clear hb
    clear HB R0
    have HB := nHB
    have R0 := nR0
    clear nHB nR0
    have R1 := Lib.hid h1
    clear h1
    go_wp2_with fail
    refine (CO1.out _ (HT.out.below HB.out)).mono ?_
    rintro e w3 ⟨rfl, hb⟩
    have nHB := Lib.hid (bel5 HB.out hb HB.out.size)
    have nR0 := Lib.hid ((R0.out.below hb (Nat.le_refl _)).more hb.size)
    have nR1 := Lib.hid ((R1.out.below hb (Nat.le_refl _)).more hb.size)
    clear hb
    clear HB R0 R1
    have HB := nHB
    have R0 := nR0
    have R1 := nR1
    clear nHB nR0 nR1
    obtain ⟨V3, hV3⟩ : ∃ V, V = w3.alloc (.cells #[.int .i64 (k : Int), .int .i64 (n : Int)] 25) := ⟨_, rfl⟩
    have ha := (Below.refl w3.heap.size w3).alloc (Nat.le_refl _) (.cells #[.int .i64 (k : Int), .int .i64 (n : Int)] 25)
    have hg := heap_alloc_new w3 (.cells #[.int .i64 (k : Int), .int .i64 (n : Int)] 25)
    have nHB := Lib.hid (HB.out.alloc HB.out.size (.cells #[.int .i64 (k : Int), .int .i64 (n : Int)] 25))
    rw [← hV3] at ha hg nHB
    have nR0 := Lib.hid ((R0.out.below ha (Nat.le_refl _)).more ha.size)
    have nR1 := Lib.hid ((R1.out.below ha (Nat.le_refl _)).more ha.size)
    obtain ⟨g10, hg10⟩ : ∃ g, g = w3.heap.size := ⟨_, rfl⟩
    rw [← hg10] at hg
    have HXG10 := Lib.hid hg10
    have G10 := Lib.hid hg
    have HV := Lib.hid hV3
    clear ha hg hV3 hg10
    clear HB R0 R1
    have HB := nHB
    have R0 := nR0
    have R1 := nR1
    clear nHB nR0 nR1
    go_wp2_with fail
    rw [← HV.out]
    (try rw [← HXG10.out])
    clear HV HXG10
    refine (CR.out A1 c1 _ h1a h1b R1.out (HT.out.below HB.out)).mono ?_
    rintro e w4 ⟨⟨A2, c2, rfl, -, -, -⟩, hb⟩
    have nHB := Lib.hid (bel5 HB.out hb HB.out.size)
    have nR0 := Lib.hid ((R0.out.below hb (Nat.le_refl _)).more hb.size)
    have nR1 := Lib.hid ((R1.out.below hb (Nat.le_refl _)).more hb.size)
    have nG10 := Lib.hid (old5 G10.out hb (Nat.le_refl _))
    clear hb
    clear HB R0 R1 G10
    have HB := nHB
    have R0 := nR0
    have R1 := nR1
    have G10 := nG10
    clear nHB nR0 nR1 nG10
    have j5 : (q : Int) ≤ (c1 : Int) := by omega
    go_wp2_with fail
    refine (CC.out A1 c1 _ h1a h1b R1.out (HT.out.below HB.out)).mono ?_
    rintro e w5 ⟨⟨l3, n3, i3, A3, c3, rfl, -, -, -⟩, hb⟩
    have nHB := Lib.hid (bel5 HB.out hb HB.out.size)
    have nR0 := Lib.hid ((R0.out.below hb (Nat.le_refl _)).more hb.size)
    have nR1 := Lib.hid ((R1.out.below hb (Nat.le_refl _)).more hb.size)
    have nG10 := Lib.hid (old5 G10.out hb (Nat.le_refl _))
    clear hb
    clear HB R0 R1 G10
    have HB := nHB
    have R0 := nR0
    have R1 := nR1
    have G10 := nG10
    clear nHB nR0 nR1 nG10
    go_wp2_with fail
    go_ret
    exact ⟨by first | rfl | simp, HB.out⟩
end Go.Proofs.YtecdmdgpmbgaaaaDoor
