
/- shown: the document's examples (bitmap). -/
import Derived.Test.YtgojmhfiikjpnaaBmK
import Derived.Test.YtgojmhfiikjpnaaRef2
namespace Go.Proofs.Ytgojmhfiikjpnaa
open Go.RowKit

theorem rdi_new (w : World) (l : List Int) : RdI (w.alloc (.cells (csI l).toArray 3)) (w.alloc (.cells (csI l).toArray 3)).heap.size (some ⟨w.heap.size, 0, none⟩) l :=
  fun _ => ⟨w.heap.size, 0, rfl, by rw [World.size_alloc]; omega, fun j hj => by
    rw [Nat.zero_add, cell_of_row _ _ _ _ _ _ (heap_alloc_new w _)]
    simpa using csI_get l j hj⟩
theorem i64s_of {l : List Int} (h : l.all (fun z => decide (-9223372036854775808 ≤ z ∧ z ≤ 9223372036854775807)) = true) : I64s l := fun z hz => of_decide_eq_true (List.all_eq_true.1 h z hz)
theorem ex6_w1 (W : World) : Calls Try.prog 10 #[.slice (some ⟨W.heap.size, 0, none⟩) 2 2] (W.alloc (.cells #[.int .i64 2, .int .i64 11] 3)) fun e W' => Ans W' e [64, 32, 0, 0, 0, 0, 0, 0] 8 (.int .i64 0) ∧ Below (W.alloc (.cells #[.int .i64 2, .int .i64 11] 3)).heap.size (W.alloc (.cells #[.int .i64 2, .int .i64 11] 3)) W' :=
  (bWrite_any _ [2, 11] 2 _ (by decide) (i64s_of (by decide)) (rdi_new W [2, 11])).mono fun e W' h => ⟨by have h1 := h.1; rw [show bmW [2, 11] = [64, 32, 0, 0, 0, 0, 0, 0] from by decide, show bmE [2, 11] = 0 from by decide] at h1; exact h1, h.2⟩
theorem ex6_w2 (W : World) : Calls Try.prog 10 #[.slice (some ⟨W.heap.size, 0, none⟩) 1 1] (W.alloc (.cells #[.int .i64 70] 3)) fun e W' => Ans W' e [128, 0, 0, 0, 0, 0, 0, 0, 4, 0, 0, 0, 0, 0, 0, 0] 16 (.int .i64 0) ∧ Below (W.alloc (.cells #[.int .i64 70] 3)).heap.size (W.alloc (.cells #[.int .i64 70] 3)) W' :=
  (bWrite_any _ [70] 1 _ (by decide) (i64s_of (by decide)) (rdi_new W [70])).mono fun e W' h => ⟨by have h1 := h.1; rw [show bmW [70] = [128, 0, 0, 0, 0, 0, 0, 0, 4, 0, 0, 0, 0, 0, 0, 0] from by decide, show bmE [70] = 0 from by decide] at h1; exact h1, h.2⟩
theorem ex6_r (A : Option Addr) (c : Nat) (W : World) (hc : 16 ≤ c) (hcm : c ≤ 9223372036854775807) (hr : Rd W W.heap.size A [128, 0, 0, 0, 0, 0, 0, 0, 4, 0, 0, 0, 0, 0, 0, 0]) : Calls Try.prog 17 #[.slice A 16 c, .int .i64 0] W fun e W' => AnsI3 W' e [70] 1 16 0 ∧ Below W.heap.size W W' :=
  (bRead_any A [128, 0, 0, 0, 0, 0, 0, 0, 4, 0, 0, 0, 0, 0, 0, 0] c 0 W (by decide) hc hcm (by decide) hr).mono fun e W' h => ⟨by have h1 := h.1; rw [show readM [128, 0, 0, 0, 0, 0, 0, 0, 4, 0, 0, 0, 0, 0, 0, 0] 0 = ([70], 16, 0) from by kernel_rfl] at h1; exact h1, h.2⟩
theorem ex6_p (W : World) : Calls Try.prog 12 #[.int .i64 70] W fun e W' => e = .returned (.tuple #[.int .i64 8, .int .u8 4]) ∧ Below W.heap.size W W' :=
  (bPlace_any 70 (by decide) W).mono fun e W' h => ⟨h.1, h.2⟩
theorem ex6_i (A : Option Addr) (c : Nat) (W : World) (hr : RdI W W.heap.size A [70]) : Calls Try.prog 19 #[.slice A 1 c, .slice (some ⟨W.heap.size, 0, none⟩) 1 1] (W.alloc (.cells #[.int .i64 70] 3)) fun e W' => e = .returned (.bool true) ∧ Below (W.alloc (.cells #[.int .i64 70] 3)).heap.size (W.alloc (.cells #[.int .i64 70] 3)) W' :=
  (refInts_any A (some ⟨W.heap.size, 0, none⟩) [70] [70] c 1 _ (by decide) (by decide) (hr.go ((Below.refl _ _).alloc (Nat.le_refl _) _)) (rdi_new W [70])).mono fun e W' h => ⟨h.1, h.2⟩
theorem ex6_r1 (A : Option Addr) (c : Nat) (W : World) (hr : RdI W W.heap.size A [70]) : Calls Try.prog 15 #[.slice A 1 c] W fun e W' => e = .returned (.bool true) ∧ Below W.heap.size W W' :=
  (bRight_any A [70] c W (by decide) (i64s_of (by decide)) hr).mono fun e W' h => ⟨by rw [show decide (RightP [70]) = true from by decide] at h; exact h.1, h.2⟩
theorem ex6_r2 (W : World) : Calls Try.prog 15 #[.slice (some ⟨W.heap.size, 0, none⟩) 1 1] (W.alloc (.cells #[.int .i64 65] 3)) fun e W' => e = .returned (.bool false) ∧ Below (W.alloc (.cells #[.int .i64 65] 3)).heap.size (W.alloc (.cells #[.int .i64 65] 3)) W' :=
  (bRight_any _ [65] 1 _ (by decide) (i64s_of (by decide)) (rdi_new W [65])).mono fun e W' h => ⟨by rw [show decide (RightP [65]) = false from by decide] at h; exact h.1, h.2⟩
theorem ex6_h1 (A : Option Addr) (c : Nat) (W : World) (hr : Rd W W.heap.size A [64, 32, 0, 0, 0, 0, 0, 0]) : Calls Try.prog 20 #[.slice A 8 c] W fun e W' => e = .returned (.string ⟨#[52, 48, 50, 48, 48, 48, 48, 48, 48, 48, 48, 48, 48, 48, 48, 48]⟩) ∧ Below W.heap.size W W' :=
  (refHex_any A [64, 32, 0, 0, 0, 0, 0, 0] c W (by decide) hr).mono fun e W' h => ⟨h.1.trans (by rfl), h.2⟩
theorem ex6_h2 (A : Option Addr) (c : Nat) (W : World) (hr : Rd W W.heap.size A [128, 0, 0, 0, 0, 0, 0, 0, 4, 0, 0, 0, 0, 0, 0, 0]) : Calls Try.prog 20 #[.slice A 16 c] W fun e W' => e = .returned (.string ⟨#[56, 48, 48, 48, 48, 48, 48, 48, 48, 48, 48, 48, 48, 48, 48, 48, 48, 52, 48, 48, 48, 48, 48, 48, 48, 48, 48, 48, 48, 48, 48, 48]⟩) ∧ Below W.heap.size W W' :=
  (refHex_any A [128, 0, 0, 0, 0, 0, 0, 0, 4, 0, 0, 0, 0, 0, 0, 0] c W (by decide) hr).mono fun e W' h => ⟨h.1.trans (by rfl), h.2⟩

set_option maxRecDepth 100000 in
set_option maxHeartbeats 4000000 in
theorem shown6_any (W : World) : Calls Try.prog 9 #[] W fun e W' => e = .returned (.bool true) ∧ Below W.heap.size W W' := by
  have HB := Lib.hid (Below.refl W.heap.size W)
  go_enter Try.func9, Try.ntmps9
  go_wp2_with fail
  have hn := HB.out.alloc HB.out.size (.cells #[.int .i64 2, .int .i64 11] 3)
  have ha := (Below.refl W.heap.size W).alloc (Nat.le_refl _) (.cells #[.int .i64 2, .int .i64 11] 3)
  refine (ex6_w1 W).mono ?_
  rintro e w1 ⟨⟨A1, c1, rfl, -, -, h1r⟩, hb⟩
  have nHB := Lib.hid (belG hn hb hn.size)
  have hb2 := belG ha hb ha.size
  clear hn ha
  clear hb hb2
  clear HB 
  have HB := nHB
  clear nHB 
  have R1 := Lib.hid h1r
  clear h1r
  go_wp2_with fail
  have hn := HB.out.alloc HB.out.size (.cells #[.int .i64 70] 3)
  have ha := (Below.refl w1.heap.size w1).alloc (Nat.le_refl _) (.cells #[.int .i64 70] 3)
  refine (ex6_w2 w1).mono ?_
  rintro e w2 ⟨⟨A2, c2, rfl, h2, h2m, h2r⟩, hb⟩
  have nHB := Lib.hid (belG hn hb hn.size)
  have hb2 := belG ha hb ha.size
  clear hn ha
  have nR1 := Lib.hid ((R1.out.below hb2 (Nat.le_refl _)).more hb2.size)
  clear hb hb2
  clear HB R1
  have HB := nHB
  have R1 := nR1
  clear nHB nR1
  have R2 := Lib.hid h2r
  clear h2r
  go_wp2_with fail
  refine (ex6_r A2 c2 w2 h2 h2m R2.out).mono ?_
  rintro e w3 ⟨⟨A3, c3, rfl, -, -, h3r⟩, hb⟩
  have nHB := Lib.hid (belG HB.out hb HB.out.size)
  have nR1 := Lib.hid ((R1.out.below hb (Nat.le_refl _)).more hb.size)
  have nR2 := Lib.hid ((R2.out.below hb (Nat.le_refl _)).more hb.size)
  clear hb
  clear HB R1 R2
  have HB := nHB
  have R1 := nR1
  have R2 := nR2
  clear nHB nR1 nR2
  have R3 := Lib.hid h3r
  clear h3r
  go_wp2_with fail
  refine (ex6_p w3).mono ?_
  rintro e w4 ⟨rfl, hb⟩
  have nHB := Lib.hid (belG HB.out hb HB.out.size)
  have nR1 := Lib.hid ((R1.out.below hb (Nat.le_refl _)).more hb.size)
  have nR2 := Lib.hid ((R2.out.below hb (Nat.le_refl _)).more hb.size)
  have nR3 := Lib.hid ((R3.out.below hb (Nat.le_refl _)).more hb.size)
  clear hb
  clear HB R1 R2 R3
  have HB := nHB
  have R1 := nR1
  have R2 := nR2
  have R3 := nR3
  clear nHB nR1 nR2 nR3
  go_wp2_with fail
  refine (ex6_h1 A1 c1 w4 R1.out).mono ?_
  rintro e w5 ⟨rfl, hb⟩
  have nHB := Lib.hid (belG HB.out hb HB.out.size)
  have nR1 := Lib.hid ((R1.out.below hb (Nat.le_refl _)).more hb.size)
  have nR2 := Lib.hid ((R2.out.below hb (Nat.le_refl _)).more hb.size)
  have nR3 := Lib.hid ((R3.out.below hb (Nat.le_refl _)).more hb.size)
  clear hb
  clear HB R1 R2 R3
  have HB := nHB
  have R1 := nR1
  have R2 := nR2
  have R3 := nR3
  clear nHB nR1 nR2 nR3
  go_wp2_with fail
  refine (ex6_h2 A2 c2 w5 R2.out).mono ?_
  rintro e w6 ⟨rfl, hb⟩
  have nHB := Lib.hid (belG HB.out hb HB.out.size)
  have nR1 := Lib.hid ((R1.out.below hb (Nat.le_refl _)).more hb.size)
  have nR2 := Lib.hid ((R2.out.below hb (Nat.le_refl _)).more hb.size)
  have nR3 := Lib.hid ((R3.out.below hb (Nat.le_refl _)).more hb.size)
  clear hb
  clear HB R1 R2 R3
  have HB := nHB
  have R1 := nR1
  have R2 := nR2
  have R3 := nR3
  clear nHB nR1 nR2 nR3
  go_wp2_with fail
  have hn := HB.out.alloc HB.out.size (.cells #[.int .i64 70] 3)
  have ha := (Below.refl w6.heap.size w6).alloc (Nat.le_refl _) (.cells #[.int .i64 70] 3)
  refine (ex6_i A3 c3 w6 R3.out).mono ?_
  rintro e w7 ⟨rfl, hb⟩
  have nHB := Lib.hid (belG hn hb hn.size)
  have hb2 := belG ha hb ha.size
  clear hn ha
  have nR1 := Lib.hid ((R1.out.below hb2 (Nat.le_refl _)).more hb2.size)
  have nR2 := Lib.hid ((R2.out.below hb2 (Nat.le_refl _)).more hb2.size)
  have nR3 := Lib.hid ((R3.out.below hb2 (Nat.le_refl _)).more hb2.size)
  clear hb hb2
  clear HB R1 R2 R3
  have HB := nHB
  have R1 := nR1
  have R2 := nR2
  have R3 := nR3
  clear nHB nR1 nR2 nR3
  go_wp2_with fail
  refine (ex6_r1 A3 c3 w7 R3.out).mono ?_
  rintro e w8 ⟨rfl, hb⟩
  have nHB := Lib.hid (belG HB.out hb HB.out.size)
  have nR1 := Lib.hid ((R1.out.below hb (Nat.le_refl _)).more hb.size)
  have nR2 := Lib.hid ((R2.out.below hb (Nat.le_refl _)).more hb.size)
  have nR3 := Lib.hid ((R3.out.below hb (Nat.le_refl _)).more hb.size)
  clear hb
  clear HB R1 R2 R3
  have HB := nHB
  have R1 := nR1
  have R2 := nR2
  have R3 := nR3
  clear nHB nR1 nR2 nR3
  go_wp2_with fail
  have hn := HB.out.alloc HB.out.size (.cells #[.int .i64 65] 3)
  have ha := (Below.refl w8.heap.size w8).alloc (Nat.le_refl _) (.cells #[.int .i64 65] 3)
  refine (ex6_r2 w8).mono ?_
  rintro e w9 ⟨rfl, hb⟩
  have nHB := Lib.hid (belG hn hb hn.size)
  have hb2 := belG ha hb ha.size
  clear hn ha
  have nR1 := Lib.hid ((R1.out.below hb2 (Nat.le_refl _)).more hb2.size)
  have nR2 := Lib.hid ((R2.out.below hb2 (Nat.le_refl _)).more hb2.size)
  have nR3 := Lib.hid ((R3.out.below hb2 (Nat.le_refl _)).more hb2.size)
  clear hb hb2
  clear HB R1 R2 R3
  have HB := nHB
  have R1 := nR1
  have R2 := nR2
  have R3 := nR3
  clear nHB nR1 nR2 nR3
  go_wp2_with fail
  go_ret
  exact ⟨rfl, HB.out⟩
end Go.Proofs.Ytgojmhfiikjpnaa
