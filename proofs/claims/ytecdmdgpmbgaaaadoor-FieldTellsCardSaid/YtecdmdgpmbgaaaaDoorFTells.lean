
/- FieldTells' walk. -/
import Derived.Test.YtecdmdgpmbgaaaaDoorFldS
namespace Go.Proofs.YtecdmdgpmbgaaaaDoor
open Go.RowKit

set_option maxRecDepth 100000 in
set_option maxHeartbeats 4000000 in
theorem fieldTells_walk (no : Int) (A : Option Addr) (v : List UInt8) (c : Nat) (W : World) (_ : -9223372036854775808 ≤ no ∧ no ≤ 9223372036854775807) (hc : v.length ≤ c) (hcm : c ≤ 9223372036854775807) (hr : Rd W W.heap.size A v) (hT : Tb W) :
    Calls Tryd.prog 3 #[.int .i64 no, .slice A v.length c] W fun e W' => e = .returned (.bool true) ∧ Below W.heap.size W W' := by
  have HT := Lib.hid hT
  clear hT
  by_cases h500 : 500 < v.length
  · have i0 : (500 : Int) < (v.length : Int) := by omega
    generalize v.length = m at *
    have HB := Lib.hid (Below.refl W.heap.size W)
    go_enter Tryd.func3, Tryd.ntmps3
    go_wp2_with fail
    refine (shown5_any _ (HT.out.below HB.out)).mono ?_
    rintro e w1 ⟨rfl, hb⟩
    have nHB := Lib.hid (bel5 HB.out hb HB.out.size)
    clear hb
    clear HB 
    have HB := nHB
    clear nHB 
    go_wp2_with fail
    go_ret
    exact ⟨rfl, HB.out⟩
  have i0 : ¬ (500 : Int) < (v.length : Int) := by omega
  have CO1 := Lib.hid (fun w (ht : Tb w) => fOf_any no w ht)
  have CO2 := Lib.hid (refOf_any no)
  have CW1 := Lib.hid (fun w (h : Rd w w.heap.size A v) (ht : Tb w) => fWrite_any no A v c w (by omega) hc hcm h ht)
  have CW2 := Lib.hid (fun w (h : Rd w w.heap.size A v) => refWrite_any no A v c w (by omega) hc hcm h)
  have CF1 := Lib.hid (fun w (h : Rd w w.heap.size A v) (ht : Tb w) => fFits_any no A v c w (by omega) h ht)
  have CF2 := Lib.hid (fun w (h : Rd w w.heap.size A v) => refFitsNo_any no A v c w (by omega) h)
  have R0 := Lib.hid hr
  have SM := Lib.hid (fun (A1 A2 : Option Addr) (c1 c2 : Nat) (w : World) (h1 : Rd w w.heap.size A1 (writeL no v)) (h2 : Rd w w.heap.size A2 (writeL no v)) => same_any A1 A2 (writeL no v) (writeL no v) c1 c2 _ _ w h1 h2)
  simp only [decide_true] at SM
  clear h500 hc hcm hr
  generalize decide (fk no ≠ 0) = B at *
  generalize fk no = k at *
  generalize fl no = n at *
  generalize fitsF no v = F at *
  generalize writeL no v = L at *
  generalize writeE no v = E at *
  generalize v.length = m at *
  generalize L.length = N at *
  have HB := Lib.hid (Below.refl W.heap.size W)
  go_enter Tryd.func3, Tryd.ntmps3
  go_wp2_with fail
  refine (shown5_any _ (HT.out.below HB.out)).mono ?_
  rintro e w1 ⟨rfl, hb⟩
  have nHB := Lib.hid (bel5 HB.out hb HB.out.size)
  have nR0 := Lib.hid ((R0.out.below hb (Nat.le_refl _)).more hb.size)
  clear hb
  clear HB R0
  have HB := nHB
  have R0 := nR0
  clear nHB nR0
  go_wp2_with fail
  refine (CO1.out _ (HT.out.below HB.out)).mono ?_
  rintro e w2 ⟨rfl, hb⟩
  have nHB := Lib.hid (bel5 HB.out hb HB.out.size)
  have nR0 := Lib.hid ((R0.out.below hb (Nat.le_refl _)).more hb.size)
  clear hb
  clear HB R0
  have HB := nHB
  have R0 := nR0
  clear nHB nR0
  obtain ⟨V2, hV2⟩ : ∃ V, V = w2.alloc (.cells #[.int .i64 (k : Int), .int .i64 (n : Int)] 25) := ⟨_, rfl⟩
  have ha := (Below.refl w2.heap.size w2).alloc (Nat.le_refl _) (.cells #[.int .i64 (k : Int), .int .i64 (n : Int)] 25)
  have hg := heap_alloc_new w2 (.cells #[.int .i64 (k : Int), .int .i64 (n : Int)] 25)
  have nHB := Lib.hid (HB.out.alloc HB.out.size (.cells #[.int .i64 (k : Int), .int .i64 (n : Int)] 25))
  rw [← hV2] at ha hg nHB
  have nR0 := Lib.hid ((R0.out.below ha (Nat.le_refl _)).more ha.size)
  obtain ⟨g6, hg6⟩ : ∃ g, g = w2.heap.size := ⟨_, rfl⟩
  rw [← hg6] at hg
  have HXG6 := Lib.hid hg6
  have G6 := Lib.hid hg
  have HV := Lib.hid hV2
  clear ha hg hV2 hg6
  clear HB R0
  have HB := nHB
  have R0 := nR0
  clear nHB nR0
  go_wp2_with fail
  rw [← HV.out]
  (try rw [← HXG6.out])
  clear HV HXG6
  refine (CO2.out _).mono ?_
  rintro e w3 ⟨rfl, hb⟩
  have nHB := Lib.hid (bel5 HB.out hb HB.out.size)
  have nR0 := Lib.hid ((R0.out.below hb (Nat.le_refl _)).more hb.size)
  have nG6 := Lib.hid (old5 G6.out hb (Nat.le_refl _))
  clear hb
  clear HB R0 G6
  have HB := nHB
  have R0 := nR0
  have G6 := nG6
  clear nHB nR0 nG6
  obtain ⟨V3, hV3⟩ : ∃ V, V = w3.alloc (.cells #[.int .i64 (k : Int), .int .i64 (n : Int)] 25) := ⟨_, rfl⟩
  have ha := (Below.refl w3.heap.size w3).alloc (Nat.le_refl _) (.cells #[.int .i64 (k : Int), .int .i64 (n : Int)] 25)
  have hg := heap_alloc_new w3 (.cells #[.int .i64 (k : Int), .int .i64 (n : Int)] 25)
  have nHB := Lib.hid (HB.out.alloc HB.out.size (.cells #[.int .i64 (k : Int), .int .i64 (n : Int)] 25))
  rw [← hV3] at ha hg nHB
  have nR0 := Lib.hid ((R0.out.below ha (Nat.le_refl _)).more ha.size)
  have nG6 := Lib.hid (old5 G6.out ha (Nat.le_refl _))
  obtain ⟨g8, hg8⟩ : ∃ g, g = w3.heap.size := ⟨_, rfl⟩
  rw [← hg8] at hg
  have HXG8 := Lib.hid hg8
  have G8 := Lib.hid hg
  have HV := Lib.hid hV3
  clear ha hg hV3 hg8
  clear HB R0 G6
  have HB := nHB
  have R0 := nR0
  have G6 := nG6
  clear nHB nR0 nG6
  go_wp2_with fail
  rw [← HV.out]
  (try rw [← HXG8.out])
  clear HV HXG8
  refine (CW1.out _ R0.out (HT.out.below HB.out)).mono ?_
  rintro e w4 ⟨⟨A1, c1, rfl, -, -, h1⟩, hb⟩
  have nHB := Lib.hid (bel5 HB.out hb HB.out.size)
  have nR0 := Lib.hid ((R0.out.below hb (Nat.le_refl _)).more hb.size)
  have nG6 := Lib.hid (old5 G6.out hb (Nat.le_refl _))
  have nG8 := Lib.hid (old5 G8.out hb (Nat.le_refl _))
  clear hb
  clear HB R0 G6 G8
  have HB := nHB
  have R0 := nR0
  have G6 := nG6
  have G8 := nG8
  clear nHB nR0 nG6 nG8
  have R1 := Lib.hid h1
  clear h1
  go_wp2_with fail
  refine (CW2.out _ R0.out).mono ?_
  rintro e w5 ⟨⟨A2, c2, rfl, -, -, h2⟩, hb⟩
  have nHB := Lib.hid (bel5 HB.out hb HB.out.size)
  have nR0 := Lib.hid ((R0.out.below hb (Nat.le_refl _)).more hb.size)
  have nR1 := Lib.hid ((R1.out.below hb (Nat.le_refl _)).more hb.size)
  have nG6 := Lib.hid (old5 G6.out hb (Nat.le_refl _))
  have nG8 := Lib.hid (old5 G8.out hb (Nat.le_refl _))
  clear hb
  clear HB R0 R1 G6 G8
  have HB := nHB
  have R0 := nR0
  have R1 := nR1
  have G6 := nG6
  have G8 := nG8
  clear nHB nR0 nR1 nG6 nG8
  have R2 := Lib.hid h2
  clear h2
  obtain ⟨x0, x1⟩ := cells2 G6.out
  obtain ⟨y0, y1⟩ := cells2 G8.out
  go_wp2_with fail
  clear x0 x1 y0 y1
  refine (CF1.out _ R0.out (HT.out.below HB.out)).mono ?_
  rintro e w6 ⟨rfl, hb⟩
  have nHB := Lib.hid (bel5 HB.out hb HB.out.size)
  have nR0 := Lib.hid ((R0.out.below hb (Nat.le_refl _)).more hb.size)
  have nR1 := Lib.hid ((R1.out.below hb (Nat.le_refl _)).more hb.size)
  have nR2 := Lib.hid ((R2.out.below hb (Nat.le_refl _)).more hb.size)
  have nG6 := Lib.hid (old5 G6.out hb (Nat.le_refl _))
  have nG8 := Lib.hid (old5 G8.out hb (Nat.le_refl _))
  clear hb
  clear HB R0 R1 R2 G6 G8
  have HB := nHB
  have R0 := nR0
  have R1 := nR1
  have R2 := nR2
  have G6 := nG6
  have G8 := nG8
  clear nHB nR0 nR1 nR2 nG6 nG8
  go_wp2_with fail
  refine (CF2.out _ R0.out).mono ?_
  rintro e w7 ⟨rfl, hb⟩
  have nHB := Lib.hid (bel5 HB.out hb HB.out.size)
  have nR0 := Lib.hid ((R0.out.below hb (Nat.le_refl _)).more hb.size)
  have nR1 := Lib.hid ((R1.out.below hb (Nat.le_refl _)).more hb.size)
  have nR2 := Lib.hid ((R2.out.below hb (Nat.le_refl _)).more hb.size)
  have nG6 := Lib.hid (old5 G6.out hb (Nat.le_refl _))
  have nG8 := Lib.hid (old5 G8.out hb (Nat.le_refl _))
  clear hb
  clear HB R0 R1 R2 G6 G8
  have HB := nHB
  have R0 := nR0
  have R1 := nR1
  have R2 := nR2
  have G6 := nG6
  have G8 := nG8
  clear nHB nR0 nR1 nR2 nG6 nG8
  go_wp2_with fail
  refine (SM.out A1 A2 c1 c2 _ R1.out R2.out).mono ?_
  rintro e w8 ⟨rfl, rfl⟩
  go_wp2_with fail
  go_ret
  exact ⟨by first | rfl | simp, HB.out⟩
end Go.Proofs.YtecdmdgpmbgaaaaDoor
