
/- BitmapReads' walk. -/
import Derived.Test.YtgojmhfiikjpnaaBmS
namespace Go.Proofs.Ytgojmhfiikjpnaa
open Go.RowKit

set_option maxRecDepth 100000 in
set_option maxHeartbeats 4000000 in
theorem bitmapReads_walk (A : Option Addr) (b : List UInt8) (c : Nat) (i : Int) (W : World) (hc : b.length ≤ c) (hcm : c ≤ 9223372036854775807) (hr : Rd W W.heap.size A b) (hi : -9223372036854775808 ≤ i ∧ i ≤ 9223372036854775807) :
    Calls Try.prog 4 #[.slice A b.length c, .int .i64 i] W fun e W' => e = .returned (.bool true) ∧ Below W.heap.size W W' := by
  by_cases h100 : 100 < b.length
  · have i0 : (100 : Int) < (b.length : Int) := by omega
    generalize b.length = m at *
    have HB := Lib.hid (Below.refl W.heap.size W)
    go_enter Try.func4, Try.ntmps4
    go_wp2_with fail
    refine (shown6_any _).mono ?_
    rintro e w1 ⟨rfl, hb⟩
    have nHB := Lib.hid (belG HB.out hb HB.out.size)
    clear hb
    clear HB 
    have HB := nHB
    clear nHB 
    go_wp2_with fail
    go_ret
    exact ⟨rfl, HB.out⟩
  have i0 : ¬ (100 : Int) < (b.length : Int) := by omega
  have C1 := Lib.hid (fun w (h : Rd w w.heap.size A b) => bRead_any A b c i w (by omega) hc hcm hi h)
  have C2 := Lib.hid (fun w (h : Rd w w.heap.size A b) => refReadB_any A b c i w (by omega) hc hcm h)
  have R0 := Lib.hid hr
  have hlen := readM_len b i
  obtain ⟨R, hR⟩ : ∃ R, R = readM b i := ⟨_, rfl⟩
  rw [← hR] at C1 C2 hlen
  have SM := Lib.hid (fun (A1 A2 : Option Addr) (c1 c2 : Nat) (w : World) (h1 : RdI w w.heap.size A1 R.1) (h2 : RdI w w.heap.size A2 R.1) => refInts_any A1 A2 R.1 R.1 c1 c2 w (by omega) (by omega) h1 h2)
  simp only [decide_true] at SM
  clear h100 hc hcm hr hR hi hlen
  generalize R.2.1 = I at *
  generalize R.2.2 = E at *
  generalize R.1 = L at *
  generalize L.length = N at *
  generalize b.length = m at *
  have HB := Lib.hid (Below.refl W.heap.size W)
  go_enter Try.func4, Try.ntmps4
  go_wp2_with fail
  refine (shown6_any _).mono ?_
  rintro e w1 ⟨rfl, hb⟩
  have nHB := Lib.hid (belG HB.out hb HB.out.size)
  have nR0 := Lib.hid ((R0.out.below hb (Nat.le_refl _)).more hb.size)
  clear hb
  clear HB R0
  have HB := nHB
  have R0 := nR0
  clear nHB nR0
  go_wp2_with fail
  refine (C1.out _ R0.out).mono ?_
  rintro e w2 ⟨⟨A1, c1, rfl, -, -, h1⟩, hb⟩
  have nHB := Lib.hid (belG HB.out hb HB.out.size)
  have nR0 := Lib.hid ((R0.out.below hb (Nat.le_refl _)).more hb.size)
  clear hb
  clear HB R0
  have HB := nHB
  have R0 := nR0
  clear nHB nR0
  have R1 := Lib.hid h1
  clear h1
  go_wp2_with fail
  refine (C2.out _ R0.out).mono ?_
  rintro e w3 ⟨⟨A2, c2, rfl, -, -, h2⟩, hb⟩
  have nHB := Lib.hid (belG HB.out hb HB.out.size)
  have nR0 := Lib.hid ((R0.out.below hb (Nat.le_refl _)).more hb.size)
  have nR1 := Lib.hid ((R1.out.below hb (Nat.le_refl _)).more hb.size)
  clear hb
  clear HB R0 R1
  have HB := nHB
  have R0 := nR0
  have R1 := nR1
  clear nHB nR0 nR1
  have R2 := Lib.hid h2
  clear h2
  go_wp2_with fail
  refine (SM.out A1 A2 c1 c2 _ R1.out R2.out).mono ?_
  rintro e w4 ⟨rfl, hb⟩
  have nHB := Lib.hid (belG HB.out hb HB.out.size)
  have nR0 := Lib.hid ((R0.out.below hb (Nat.le_refl _)).more hb.size)
  have nR1 := Lib.hid ((R1.out.below hb (Nat.le_refl _)).more hb.size)
  have nR2 := Lib.hid ((R2.out.below hb (Nat.le_refl _)).more hb.size)
  clear hb
  clear HB R0 R1 R2
  have HB := nHB
  have R0 := nR0
  have R1 := nR1
  have R2 := nR2
  clear nHB nR0 nR1 nR2
  go_wp2_with fail
  go_ret
  exact ⟨by first | rfl | simp, HB.out⟩
end Go.Proofs.Ytgojmhfiikjpnaa
