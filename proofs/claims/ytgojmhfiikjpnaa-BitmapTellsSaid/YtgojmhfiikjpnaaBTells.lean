
/- BitmapTells' walk. -/
import Derived.Test.YtgojmhfiikjpnaaBmS
namespace Go.Proofs.Ytgojmhfiikjpnaa
open Go.RowKit

set_option maxRecDepth 100000 in
set_option maxHeartbeats 4000000 in
theorem bitmapTells_walk (A : Option Addr) (l : List Int) (c : Nat) (n : Int) (W : World) (hc : l.length ≤ c) (hcm : c ≤ 9223372036854775807) (hz : I64s l) (hr : RdI W W.heap.size A l) (hn : -9223372036854775808 ≤ n ∧ n ≤ 9223372036854775807) :
    Calls Try.prog 3 #[.slice A l.length c, .int .i64 n] W fun e W' => e = .returned (.bool true) ∧ Below W.heap.size W W' := by
  by_cases h150 : 150 < l.length
  · have i0 : (150 : Int) < (l.length : Int) := by omega
    generalize l.length = m at *
    have HB := Lib.hid (Below.refl W.heap.size W)
    go_enter Try.func3, Try.ntmps3
    go_wp2_with fail
    refine (shown6_any _).mono ?_
    rintro e w1 ⟨rfl, hb⟩
    have nHB := Lib.hid (belG HB.out hb HB.out.size)
    clear hb
    clear HB 
    have HB := nHB
    clear nHB 
    go_wp2_with fail
    go_ret
    exact ⟨rfl, HB.out⟩
  have i0 : ¬ (150 : Int) < (l.length : Int) := by omega
  have CW1 := Lib.hid (fun w (h : RdI w w.heap.size A l) => bWrite_any A l c w (by omega) hz h)
  have CW2 := Lib.hid (fun w (h : RdI w w.heap.size A l) => refWriteB_any A l c w (by omega) h)
  have CP1 := Lib.hid (fun w => bPlace_any n hn w)
  have CP2 := Lib.hid (fun w => refPlace_any n hn w)
  have CR1 := Lib.hid (fun w (h : RdI w w.heap.size A l) => bRight_any A l c w (by omega) hz h)
  have CR2 := Lib.hid (fun w (h : RdI w w.heap.size A l) => refRight_any A l c w (by omega) h)
  have R0 := Lib.hid hr
  have SM := Lib.hid (fun (A1 A2 : Option Addr) (c1 c2 : Nat) (w : World) (h1 : Rd w w.heap.size A1 (bmW l)) (h2 : Rd w w.heap.size A2 (bmW l)) => same_any A1 A2 (bmW l) (bmW l) c1 c2 _ _ w h1 h2)
  simp only [decide_true] at SM
  clear h150 hc hcm hr hz hn
  generalize decide (RightP l) = F at *
  generalize bmW l = L at *
  generalize bmE l = E at *
  generalize plI n = I at *
  generalize plB n = Q at *
  generalize l.length = m at *
  generalize L.length = N at *
  have HB := Lib.hid (Below.refl W.heap.size W)
  go_enter Try.func3, Try.ntmps3
  go_wp2_with fail
  refine (shown6_any _).mono ?_
  rintro e w1 ⟨rfl, hb⟩
  have nHB := Lib.hid (belG HB.out hb HB.out.size)
  have nR0 := Lib.hid ((R0.out.below hb (Nat.le_refl _)).more hb.size)
  clear hb
  clear HB R0
  have HB := nHB
  have R0 := nR0
  clear nHB nR0
  go_wp2_with fail
  refine (CW1.out _ R0.out).mono ?_
  rintro e w2 ⟨⟨A1, c1, rfl, -, -, h1⟩, hb⟩
  have nHB := Lib.hid (belG HB.out hb HB.out.size)
  have nR0 := Lib.hid ((R0.out.below hb (Nat.le_refl _)).more hb.size)
  clear hb
  clear HB R0
  have HB := nHB
  have R0 := nR0
  clear nHB nR0
  have R1 := Lib.hid h1
  clear h1
  go_wp2_with fail
  refine (CW2.out _ R0.out).mono ?_
  rintro e w3 ⟨⟨A2, c2, rfl, -, -, h2⟩, hb⟩
  have nHB := Lib.hid (belG HB.out hb HB.out.size)
  have nR0 := Lib.hid ((R0.out.below hb (Nat.le_refl _)).more hb.size)
  have nR1 := Lib.hid ((R1.out.below hb (Nat.le_refl _)).more hb.size)
  clear hb
  clear HB R0 R1
  have HB := nHB
  have R0 := nR0
  have R1 := nR1
  clear nHB nR0 nR1
  have R2 := Lib.hid h2
  clear h2
  go_wp2_with fail
  refine (CP1.out _).mono ?_
  rintro e w4 ⟨rfl, hb⟩
  have nHB := Lib.hid (belG HB.out hb HB.out.size)
  have nR0 := Lib.hid ((R0.out.below hb (Nat.le_refl _)).more hb.size)
  have nR1 := Lib.hid ((R1.out.below hb (Nat.le_refl _)).more hb.size)
  have nR2 := Lib.hid ((R2.out.below hb (Nat.le_refl _)).more hb.size)
  clear hb
  clear HB R0 R1 R2
  have HB := nHB
  have R0 := nR0
  have R1 := nR1
  have R2 := nR2
  clear nHB nR0 nR1 nR2
  go_wp2_with fail
  refine (CP2.out _).mono ?_
  rintro e w5 ⟨rfl, rfl⟩
  go_wp2_with fail
  refine (SM.out A1 A2 c1 c2 _ R1.out R2.out).mono ?_
  rintro e w6 ⟨rfl, rfl⟩
  go_wp2_with fail
  refine (CR1.out _ R0.out).mono ?_
  rintro e w7 ⟨rfl, hb⟩
  have nHB := Lib.hid (belG HB.out hb HB.out.size)
  have nR0 := Lib.hid ((R0.out.below hb (Nat.le_refl _)).more hb.size)
  have nR1 := Lib.hid ((R1.out.below hb (Nat.le_refl _)).more hb.size)
  have nR2 := Lib.hid ((R2.out.below hb (Nat.le_refl _)).more hb.size)
  clear hb
  clear HB R0 R1 R2
  have HB := nHB
  have R0 := nR0
  have R1 := nR1
  have R2 := nR2
  clear nHB nR0 nR1 nR2
  go_wp2_with fail
  refine (CR2.out _ R0.out).mono ?_
  rintro e w8 ⟨rfl, hb⟩
  have nHB := Lib.hid (belG HB.out hb HB.out.size)
  have nR0 := Lib.hid ((R0.out.below hb (Nat.le_refl _)).more hb.size)
  have nR1 := Lib.hid ((R1.out.below hb (Nat.le_refl _)).more hb.size)
  have nR2 := Lib.hid ((R2.out.below hb (Nat.le_refl _)).more hb.size)
  clear hb
  clear HB R0 R1 R2
  have HB := nHB
  have R0 := nR0
  have R1 := nR1
  have R2 := nR2
  clear nHB nR0 nR1 nR2
  go_wp2_with fail
  go_ret
  exact ⟨by first | rfl | simp, HB.out⟩
end Go.Proofs.Ytgojmhfiikjpnaa
