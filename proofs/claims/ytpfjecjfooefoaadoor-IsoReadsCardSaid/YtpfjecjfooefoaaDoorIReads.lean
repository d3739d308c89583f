
/- IsoReads' walk. -/
import Derived.Test.YtpfjecjfooefoaaDoorJ40
namespace Go.Proofs.YtpfjecjfooefoaaDoor
open Go.RowKit

set_option maxRecDepth 100000 in
set_option maxHeartbeats 4000000 in
theorem isoReads_walk (A : Option Addr) (b : List UInt8) (c : Nat) (W : World) (hc : b.length ≤ c) (hcm : c ≤ 9223372036854775807) (hr : Rd W W.heap.size A b) (hT : Tb W) :
    Calls Tryd.prog 4 #[.slice A b.length c] W fun e W' => e = .returned (.bool true) ∧ Below W.heap.size W W' := by
  have HT := Lib.hid hT
  by_cases h100 : 2500 < b.length
  · have i0 : (2500 : Int) < (b.length : Int) := by omega
    generalize b.length = m at *
    have HB := Lib.hid (Below.refl W.heap.size W)
    go_enter Tryd.func4, Tryd.ntmps4
    go_wp2_with fail
    refine (shown7_any _ (HT.out.below HB.out)).mono ?_
    rintro e w1 ⟨rfl, hb⟩
    have nHB := Lib.hid (belG HB.out hb HB.out.size)
    clear hb
    clear HB 
    have HB := nHB
    clear nHB 
    go_wp2_with fail
    go_ret
    exact ⟨rfl, HB.out⟩
  have i0 : ¬ (2500 : Int) < (b.length : Int) := by omega
  have C1 := Lib.hid (fun w (hB : Below W.heap.size W w) (h : Rd w w.heap.size A b) => iRead_any A b c w (by omega) hc hcm h (hT.below hB))
  have C2 := Lib.hid (fun w (hB : Below W.heap.size W w) (h : Rd w w.heap.size A b) => refReadM_any A b c w (by omega) hc hcm h)
  have R0 := Lib.hid hr
  obtain ⟨X, hX⟩ : ∃ X, X = readMg b := ⟨_, rfl⟩
  have hX1 := (read_okM b).1.len
  rw [← hX] at C1 C2 hX1
  have SM := Lib.hid (fun (A1 A2 : Option Addr) (c1 c2 : Nat) w (hB : Below W.heap.size W w) (p1 : X.2.1.length ≤ c1) (p2 : c1 ≤ 9223372036854775807) (h1 : RdF w w.heap.size A1 X.2.1) (h2 : RdF w w.heap.size A2 X.2.1) => refSameM_any X.1 X.1 A1 A2 X.2.1 X.2.1 c1 c2 w p1 p2 h1 h2)
  simp only [and_self, decide_true] at SM
  unfold AnsMx at C1 C2
  generalize X.2.1.length = n at *
  clear h100 hc hcm hr hX
  generalize b.length = m at *
  generalize X.2.1 = l at *
  generalize X.1 = t at *
  generalize X.2.2 = x at *
  have HB := Lib.hid (Below.refl W.heap.size W)
  go_enter Tryd.func4, Tryd.ntmps4
  go_wp2_with fail
  refine (shown7_any _ (HT.out.below HB.out)).mono ?_
  rintro e w1 ⟨rfl, hb⟩
  have nHB := Lib.hid (belG HB.out hb HB.out.size)
  have nR0 := Lib.hid ((R0.out.below hb (Nat.le_refl _)).more hb.size)
  clear hb
  clear HB R0
  have HB := nHB
  have R0 := nR0
  clear nHB nR0
  go_wp2_with fail
  refine (C1.out _ HB.out R0.out).mono ?_
  rintro e w2 ⟨⟨A1, c1, rfl, p1, p2, h1⟩, hb⟩
  have nHB := Lib.hid (belG HB.out hb HB.out.size)
  have nR0 := Lib.hid ((R0.out.below hb (Nat.le_refl _)).more hb.size)
  clear hb
  clear HB R0
  have HB := nHB
  have R0 := nR0
  clear nHB nR0
  have R1 := Lib.hid h1
  clear h1
  obtain ⟨V2, hV2⟩ : ∃ V, V = w2.alloc (.cells #[.int .i64 t, .slice A1 n c1] 24) := ⟨_, rfl⟩
  have ha := (Below.refl w2.heap.size w2).alloc (Nat.le_refl _) (.cells #[.int .i64 t, .slice A1 n c1] 24)
  have hg := heap_alloc_new w2 (.cells #[.int .i64 t, .slice A1 n c1] 24)
  have nHB := Lib.hid (HB.out.alloc HB.out.size (.cells #[.int .i64 t, .slice A1 n c1] 24))
  rw [← hV2] at ha hg nHB
  have nR0 := Lib.hid ((R0.out.below ha (Nat.le_refl _)).more ha.size)
  have nR1 := Lib.hid ((R1.out.below ha (Nat.le_refl _)).more ha.size)
  obtain ⟨g1, hg1⟩ : ∃ g, g = w2.heap.size := ⟨_, rfl⟩
  rw [← hg1] at hg
  have HXG1 := Lib.hid hg1
  have G1 := Lib.hid hg
  have HV := Lib.hid hV2
  clear ha hg hV2 hg1
  clear HB R0 R1
  have HB := nHB
  have R0 := nR0
  have R1 := nR1
  clear nHB nR0 nR1
  go_wp2_with fail
  rw [← HV.out]
  (try rw [← HXG1.out])
  clear HV HXG1
  refine (C2.out _ HB.out R0.out).mono ?_
  rintro e w3 ⟨⟨A2, c2, rfl, p3, p4, h2⟩, hb⟩
  have nHB := Lib.hid (belG HB.out hb HB.out.size)
  have nR0 := Lib.hid ((R0.out.below hb (Nat.le_refl _)).more hb.size)
  have nR1 := Lib.hid ((R1.out.below hb (Nat.le_refl _)).more hb.size)
  have nG1 := Lib.hid (oldG G1.out hb (Nat.le_refl _))
  clear hb
  clear HB R0 R1 G1
  have HB := nHB
  have R0 := nR0
  have R1 := nR1
  have G1 := nG1
  clear nHB nR0 nR1 nG1
  have R2 := Lib.hid h2
  clear h2
  obtain ⟨V3, hV3⟩ : ∃ V, V = w3.alloc (.cells #[.int .i64 t, .slice A2 n c2] 24) := ⟨_, rfl⟩
  have ha := (Below.refl w3.heap.size w3).alloc (Nat.le_refl _) (.cells #[.int .i64 t, .slice A2 n c2] 24)
  have hg := heap_alloc_new w3 (.cells #[.int .i64 t, .slice A2 n c2] 24)
  have nHB := Lib.hid (HB.out.alloc HB.out.size (.cells #[.int .i64 t, .slice A2 n c2] 24))
  rw [← hV3] at ha hg nHB
  have nR0 := Lib.hid ((R0.out.below ha (Nat.le_refl _)).more ha.size)
  have nR1 := Lib.hid ((R1.out.below ha (Nat.le_refl _)).more ha.size)
  have nR2 := Lib.hid ((R2.out.below ha (Nat.le_refl _)).more ha.size)
  have nG1 := Lib.hid (oldG G1.out ha (Nat.le_refl _))
  obtain ⟨g2, hg2⟩ : ∃ g, g = w3.heap.size := ⟨_, rfl⟩
  rw [← hg2] at hg
  have HXG2 := Lib.hid hg2
  have G2 := Lib.hid hg
  have HV := Lib.hid hV3
  clear ha hg hV3 hg2
  clear HB R0 R1 R2 G1
  have HB := nHB
  have R0 := nR0
  have R1 := nR1
  have R2 := nR2
  have G1 := nG1
  clear nHB nR0 nR1 nR2 nG1
  obtain ⟨g1x, g1y⟩ := cG2 G1.out
  rw [HV.out] at g1x g1y
  obtain ⟨g2x, g2y⟩ := cG2 G2.out
  rw [HV.out] at g2x g2y
  rw [HXG2.out] at g2x g2y
  go_wp2_with fail
  clear g1x g1y g2x g2y
  rw [← HV.out]
  (try rw [← HXG2.out])
  clear HV HXG2
  refine (SM.out A1 A2 c1 c2 _ HB.out p1 p2 R1.out R2.out).mono ?_
  rintro e w4 ⟨rfl, hb⟩
  have nHB := Lib.hid (belG HB.out hb HB.out.size)
  have nR0 := Lib.hid ((R0.out.below hb (Nat.le_refl _)).more hb.size)
  have nR1 := Lib.hid ((R1.out.below hb (Nat.le_refl _)).more hb.size)
  have nR2 := Lib.hid ((R2.out.below hb (Nat.le_refl _)).more hb.size)
  have nG1 := Lib.hid (oldG G1.out hb (Nat.le_refl _))
  have nG2 := Lib.hid (oldG G2.out hb (Nat.le_refl _))
  clear hb
  clear HB R0 R1 R2 G1 G2
  have HB := nHB
  have R0 := nR0
  have R1 := nR1
  have R2 := nR2
  have G1 := nG1
  have G2 := nG2
  clear nHB nR0 nR1 nR2 nG1 nG2
  go_wp2_with fail
  go_ret
  exact ⟨by first | rfl | simp, HB.out⟩
end Go.Proofs.YtpfjecjfooefoaaDoor
