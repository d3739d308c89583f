
/- shown: the document's examples (field). -/
import Derived.Test.YtecdmdgpmbgaaaaDoorFldK
import Derived.Lib.SlBytesConst
namespace Go.Proofs.YtecdmdgpmbgaaaaDoor
open Go.RowKit

theorem ex5_w1 (A : Option Addr) (W : World) (hr : Rd W W.heap.size A [52, 49, 49, 49]) (hT : Tb W) : Calls Tryd.prog 13 #[.int .i64 2, .slice A 4 4] W fun e W' => Ans W' e [4, 65, 17] 3 (.int .i64 0) ∧ Below W.heap.size W W' :=
  (fWrite_any 2 A [52, 49, 49, 49] 4 W (by decide) (by decide) (by decide) hr hT).mono fun e W' h => ⟨h.1, h.2⟩
theorem ex5_w2 (A : Option Addr) (W : World) (hr : Rd W W.heap.size A [48, 49, 50]) (hT : Tb W) : Calls Tryd.prog 13 #[.int .i64 22, .slice A 3 3] W fun e W' => Ans W' e [0, 18] 2 (.int .i64 0) ∧ Below W.heap.size W W' :=
  (fWrite_any 22 A [48, 49, 50] 3 W (by decide) (by decide) (by decide) hr hT).mono fun e W' h => ⟨h.1, h.2⟩
theorem ex5_w3 (A : Option Addr) (W : World) (hr : Rd W W.heap.size A [97, 98]) (hT : Tb W) : Calls Tryd.prog 13 #[.int .i64 48, .slice A 2 2] W fun e W' => Ans W' e [0, 2, 97, 98] 4 (.int .i64 0) ∧ Below W.heap.size W W' :=
  (fWrite_any 48 A [97, 98] 2 W (by decide) (by decide) (by decide) hr hT).mono fun e W' h => ⟨h.1, h.2⟩
theorem ex5_r (A : Option Addr) (c : Nat) (W : World) (hc : 3 ≤ c) (hcm : c ≤ 9223372036854775807) (hr : Rd W W.heap.size A [4, 65, 17]) (hT : Tb W) : Calls Tryd.prog 18 #[.int .i64 2, .slice A 3 c, .int .i64 0] W fun e W' => Ans3 W' e [52, 49, 49, 49] 4 3 0 ∧ Below W.heap.size W W' :=
  (fRead_any 2 A [4, 65, 17] c 0 W (by decide) hc hcm hr hT).mono fun e W' h => ⟨h.1, h.2⟩
theorem ex5_o1 (W : World) (hT : Tb W) : Calls Tryd.prog 11 #[.int .i64 127] W fun e W' => e = .returned (.tuple #[.agg #[.int .i64 7, .int .i64 400], .bool true]) ∧ Below W.heap.size W W' :=
  (fOf_any 127 W hT).mono fun e W' h => ⟨h.1, h.2⟩
theorem ex5_o2 (W : World) (hT : Tb W) : Calls Tryd.prog 11 #[.int .i64 1] W fun e W' => e = .returned (.tuple #[.agg #[.int .i64 0, .int .i64 0], .bool false]) ∧ Below W.heap.size W W' :=
  (fOf_any 1 W hT).mono fun e W' h => ⟨h.1, h.2⟩
theorem ex5_f1 (A : Option Addr) (W : World) (hr : Rd W W.heap.size A [48, 48]) (hT : Tb W) : Calls Tryd.prog 15 #[.int .i64 39, .slice A 2 2] W fun e W' => e = .returned (.bool true) ∧ Below W.heap.size W W' :=
  (fFits_any 39 A [48, 48] 2 W (by decide) hr hT).mono fun e W' h => ⟨h.1, h.2⟩
theorem ex5_f2 (A : Option Addr) (W : World) (hr : Rd W W.heap.size A [48]) (hT : Tb W) : Calls Tryd.prog 15 #[.int .i64 39, .slice A 1 1] W fun e W' => e = .returned (.bool false) ∧ Below W.heap.size W W' :=
  (fFits_any 39 A [48] 1 W (by decide) hr hT).mono fun e W' h => ⟨h.1, h.2⟩
theorem ex5_h1 (A : Option Addr) (c : Nat) (W : World) (hr : Rd W W.heap.size A [4, 65, 17]) : Calls Tryd.prog 20 #[.slice A 3 c] W fun e W' => e = .returned (.string ⟨#[48, 52, 52, 49, 49, 49]⟩) ∧ Below W.heap.size W W' :=
  (refHex_any A [4, 65, 17] c W (by decide) hr).mono fun e W' h => ⟨h.1.trans (by rfl), h.2⟩
theorem ex5_h2 (A : Option Addr) (c : Nat) (W : World) (hr : Rd W W.heap.size A [0, 18]) : Calls Tryd.prog 20 #[.slice A 2 c] W fun e W' => e = .returned (.string ⟨#[48, 48, 49, 50]⟩) ∧ Below W.heap.size W W' :=
  (refHex_any A [0, 18] c W (by decide) hr).mono fun e W' h => ⟨h.1.trans (by rfl), h.2⟩
theorem ex5_h3 (A : Option Addr) (c : Nat) (W : World) (hr : Rd W W.heap.size A [0, 2, 97, 98]) : Calls Tryd.prog 20 #[.slice A 4 c] W fun e W' => e = .returned (.string ⟨#[48, 48, 48, 50, 54, 49, 54, 50]⟩) ∧ Below W.heap.size W W' :=
  (refHex_any A [0, 2, 97, 98] c W (by decide) hr).mono fun e W' h => ⟨h.1.trans (by rfl), h.2⟩
/-- a row of bytes that is laid into a new block -/
theorem rd_new (W : World) (l : List UInt8) (fr : Nat × Nat := (0, 0)) : Rd (W.alloc (.cells (cs l).toArray 5 fr)) (W.alloc (.cells (cs l).toArray 5 fr)).heap.size (some ⟨W.heap.size, 0, none⟩) l :=
  fun _ => ⟨W.heap.size, 0, rfl, by rw [World.size_alloc]; omega, fun j hj => by
    rw [Nat.zero_add, cell_of_row _ _ _ _ _ _ (heap_alloc_new W _)]
    simpa using cs_get l j hj⟩

set_option maxRecDepth 100000 in
set_option maxHeartbeats 4000000 in
theorem shown5_any (W : World) (hT : Tb W) : Calls Tryd.prog 10 #[] W fun e W' => e = .returned (.bool true) ∧ Below W.heap.size W W' := by
  have HT := Lib.hid hT
  clear hT
  have HB := Lib.hid (Below.refl W.heap.size W)
  go_enter Tryd.func10, Tryd.ntmps10
  have hconv := Lib.run_convert_bytes_const (P := Tryd.prog) W 22 5 #[.int .u8 52, .int .u8 49, .int .u8 49, .int .u8 49] 4 4 Tryd.underlying22 Tryd.underlying5
  go_wp2_with fail
  clear hconv
  have hn1 := HB.out.alloc HB.out.size (.cells #[.int .u8 52, .int .u8 49, .int .u8 49, .int .u8 49] 5 (4, 5))
  have ha1 := (Below.refl W.heap.size W).alloc (Nat.le_refl _) (.cells #[.int .u8 52, .int .u8 49, .int .u8 49, .int .u8 49] 5 (4, 5))
  refine (ex5_w1 _ (W.alloc (.cells #[.int .u8 52, .int .u8 49, .int .u8 49, .int .u8 49] 5 (4, 5))) (by exact rd_new W [52, 49, 49, 49] (4, 5)) (HT.out.below (HB.out.alloc HB.out.size _))).mono ?_
  rintro e w1 ⟨⟨A1, c1, rfl, h1, h1m, h1r⟩, hb⟩
  have nHB := Lib.hid (bel5 hn1 hb hn1.size)
  have hb2 := bel5 ha1 hb ha1.size
  clear hn1 ha1
  clear hb hb2 HB 
  have HB := nHB
  clear nHB 
  have R1 := Lib.hid h1r
  clear h1r
  have hconv := Lib.run_convert_bytes_const (P := Tryd.prog) w1 22 5 #[.int .u8 48, .int .u8 49, .int .u8 50] 3 3 Tryd.underlying22 Tryd.underlying5
  go_wp2_with fail
  clear hconv
  have hn2 := HB.out.alloc HB.out.size (.cells #[.int .u8 48, .int .u8 49, .int .u8 50] 5 (3, 4))
  have ha2 := (Below.refl w1.heap.size w1).alloc (Nat.le_refl _) (.cells #[.int .u8 48, .int .u8 49, .int .u8 50] 5 (3, 4))
  refine (ex5_w2 _ (w1.alloc (.cells #[.int .u8 48, .int .u8 49, .int .u8 50] 5 (3, 4))) (by exact rd_new w1 [48, 49, 50] (3, 4)) (HT.out.below (HB.out.alloc HB.out.size _))).mono ?_
  rintro e w2 ⟨⟨A2, c2, rfl, -, -, h2r⟩, hb⟩
  have nHB := Lib.hid (bel5 hn2 hb hn2.size)
  have hb2 := bel5 ha2 hb ha2.size
  clear hn2 ha2
  have nR1 := Lib.hid ((R1.out.below hb2 (Nat.le_refl _)).more hb2.size)
  clear hb hb2 HB R1
  have HB := nHB
  have R1 := nR1
  clear nHB nR1
  have R2 := Lib.hid h2r
  clear h2r
  have hconv := Lib.run_convert_bytes_const (P := Tryd.prog) w2 22 5 #[.int .u8 97, .int .u8 98] 2 2 Tryd.underlying22 Tryd.underlying5
  go_wp2_with fail
  clear hconv
  have hn3 := HB.out.alloc HB.out.size (.cells #[.int .u8 97, .int .u8 98] 5 (2, 3))
  have ha3 := (Below.refl w2.heap.size w2).alloc (Nat.le_refl _) (.cells #[.int .u8 97, .int .u8 98] 5 (2, 3))
  refine (ex5_w3 _ (w2.alloc (.cells #[.int .u8 97, .int .u8 98] 5 (2, 3))) (by exact rd_new w2 [97, 98] (2, 3)) (HT.out.below (HB.out.alloc HB.out.size _))).mono ?_
  rintro e w3 ⟨⟨A3, c3, rfl, -, -, h3r⟩, hb⟩
  have nHB := Lib.hid (bel5 hn3 hb hn3.size)
  have hb2 := bel5 ha3 hb ha3.size
  clear hn3 ha3
  have nR1 := Lib.hid ((R1.out.below hb2 (Nat.le_refl _)).more hb2.size)
  have nR2 := Lib.hid ((R2.out.below hb2 (Nat.le_refl _)).more hb2.size)
  clear hb hb2 HB R1 R2
  have HB := nHB
  have R1 := nR1
  have R2 := nR2
  clear nHB nR1 nR2
  have R3 := Lib.hid h3r
  clear h3r
  go_wp2_with fail
  refine (ex5_r _ _ _ h1 h1m R1.out (HT.out.below HB.out)).mono ?_
  rintro e w4 ⟨⟨A4, c4, rfl, -, -, h4r⟩, hb⟩
  have nHB := Lib.hid (bel5 HB.out hb HB.out.size)
  have hb2 := hb
  have nR1 := Lib.hid ((R1.out.below hb2 (Nat.le_refl _)).more hb2.size)
  have nR2 := Lib.hid ((R2.out.below hb2 (Nat.le_refl _)).more hb2.size)
  have nR3 := Lib.hid ((R3.out.below hb2 (Nat.le_refl _)).more hb2.size)
  clear hb hb2 HB R1 R2 R3
  have HB := nHB
  have R1 := nR1
  have R2 := nR2
  have R3 := nR3
  clear nHB nR1 nR2 nR3
  have R4 := Lib.hid h4r
  clear h4r
  go_wp2_with fail
  refine (ex5_o1 _ (HT.out.below HB.out)).mono ?_
  rintro e w5 ⟨rfl, hb⟩
  have nHB := Lib.hid (bel5 HB.out hb HB.out.size)
  have hb2 := hb
  have nR1 := Lib.hid ((R1.out.below hb2 (Nat.le_refl _)).more hb2.size)
  have nR2 := Lib.hid ((R2.out.below hb2 (Nat.le_refl _)).more hb2.size)
  have nR3 := Lib.hid ((R3.out.below hb2 (Nat.le_refl _)).more hb2.size)
  have nR4 := Lib.hid ((R4.out.below hb2 (Nat.le_refl _)).more hb2.size)
  clear hb hb2 HB R1 R2 R3 R4
  have HB := nHB
  have R1 := nR1
  have R2 := nR2
  have R3 := nR3
  have R4 := nR4
  clear nHB nR1 nR2 nR3 nR4
  obtain ⟨V5, hV5⟩ : ∃ V, V = w5.alloc (.cells #[.int .i64 7, .int .i64 400] 25) := ⟨_, rfl⟩
  have ha := (Below.refl w5.heap.size w5).alloc (Nat.le_refl _) (.cells #[.int .i64 7, .int .i64 400] 25)
  have hg := heap_alloc_new w5 (.cells #[.int .i64 7, .int .i64 400] 25)
  have nHB := Lib.hid (HB.out.alloc HB.out.size (.cells #[.int .i64 7, .int .i64 400] 25))
  rw [← hV5] at ha hg nHB
  have nR1 := Lib.hid ((R1.out.below ha (Nat.le_refl _)).more ha.size)
  have nR2 := Lib.hid ((R2.out.below ha (Nat.le_refl _)).more ha.size)
  have nR3 := Lib.hid ((R3.out.below ha (Nat.le_refl _)).more ha.size)
  have nR4 := Lib.hid ((R4.out.below ha (Nat.le_refl _)).more ha.size)
  have G5 := Lib.hid hg
  have HV := Lib.hid hV5
  clear ha hg hV5 HB R1 R2 R3 R4
  have HB := nHB
  have R1 := nR1
  have R2 := nR2
  have R3 := nR3
  have R4 := nR4
  clear nHB nR1 nR2 nR3 nR4
  obtain ⟨g5, hg5⟩ : ∃ g, g = w5.heap.size := ⟨_, rfl⟩
  rw [← hg5] at G5
  go_wp2_with fail
  rw [← HV.out]
  clear HV
  (try rw [← hg5])
  clear hg5
  refine (ex5_o2 _ (HT.out.below HB.out)).mono ?_
  rintro e w6 ⟨rfl, hb⟩
  have nHB := Lib.hid (bel5 HB.out hb HB.out.size)
  have hb2 := hb
  have nR1 := Lib.hid ((R1.out.below hb2 (Nat.le_refl _)).more hb2.size)
  have nR2 := Lib.hid ((R2.out.below hb2 (Nat.le_refl _)).more hb2.size)
  have nR3 := Lib.hid ((R3.out.below hb2 (Nat.le_refl _)).more hb2.size)
  have nR4 := Lib.hid ((R4.out.below hb2 (Nat.le_refl _)).more hb2.size)
  have nG5 := Lib.hid (old5 G5.out hb2 (Nat.le_refl _))
  clear hb hb2 HB R1 R2 R3 R4 G5
  have HB := nHB
  have R1 := nR1
  have R2 := nR2
  have R3 := nR3
  have R4 := nR4
  have G5 := nG5
  clear nHB nR1 nR2 nR3 nR4 nG5
  obtain ⟨V6, hV6⟩ : ∃ V, V = w6.alloc (.cells #[.int .i64 0, .int .i64 0] 25) := ⟨_, rfl⟩
  have ha := (Below.refl w6.heap.size w6).alloc (Nat.le_refl _) (.cells #[.int .i64 0, .int .i64 0] 25)
  have hg := heap_alloc_new w6 (.cells #[.int .i64 0, .int .i64 0] 25)
  have nHB := Lib.hid (HB.out.alloc HB.out.size (.cells #[.int .i64 0, .int .i64 0] 25))
  rw [← hV6] at ha hg nHB
  have nR1 := Lib.hid ((R1.out.below ha (Nat.le_refl _)).more ha.size)
  have nR2 := Lib.hid ((R2.out.below ha (Nat.le_refl _)).more ha.size)
  have nR3 := Lib.hid ((R3.out.below ha (Nat.le_refl _)).more ha.size)
  have nR4 := Lib.hid ((R4.out.below ha (Nat.le_refl _)).more ha.size)
  have nG5 := Lib.hid (old5 G5.out ha (Nat.le_refl _))
  have G6 := Lib.hid hg
  have HV := Lib.hid hV6
  clear ha hg hV6 HB R1 R2 R3 R4 G5
  have HB := nHB
  have R1 := nR1
  have R2 := nR2
  have R3 := nR3
  have R4 := nR4
  have G5 := nG5
  clear nHB nR1 nR2 nR3 nR4 nG5
  go_wp2_with fail
  rw [← HV.out]
  clear HV
  refine (ex5_h1 _ _ _ R1.out).mono ?_
  rintro e w7 ⟨rfl, hb⟩
  have nHB := Lib.hid (bel5 HB.out hb HB.out.size)
  have hb2 := hb
  have nR1 := Lib.hid ((R1.out.below hb2 (Nat.le_refl _)).more hb2.size)
  have nR2 := Lib.hid ((R2.out.below hb2 (Nat.le_refl _)).more hb2.size)
  have nR3 := Lib.hid ((R3.out.below hb2 (Nat.le_refl _)).more hb2.size)
  have nR4 := Lib.hid ((R4.out.below hb2 (Nat.le_refl _)).more hb2.size)
  have nG5 := Lib.hid (old5 G5.out hb2 (Nat.le_refl _))
  have nG6 := Lib.hid (old5 G6.out hb2 (Nat.le_refl _))
  clear hb hb2 HB R1 R2 R3 R4 G5 G6
  have HB := nHB
  have R1 := nR1
  have R2 := nR2
  have R3 := nR3
  have R4 := nR4
  have G5 := nG5
  have G6 := nG6
  clear nHB nR1 nR2 nR3 nR4 nG5 nG6
  go_wp2_with fail
  refine (ex5_h2 _ _ _ R2.out).mono ?_
  rintro e w8 ⟨rfl, hb⟩
  have nHB := Lib.hid (bel5 HB.out hb HB.out.size)
  have hb2 := hb
  have nR1 := Lib.hid ((R1.out.below hb2 (Nat.le_refl _)).more hb2.size)
  have nR2 := Lib.hid ((R2.out.below hb2 (Nat.le_refl _)).more hb2.size)
  have nR3 := Lib.hid ((R3.out.below hb2 (Nat.le_refl _)).more hb2.size)
  have nR4 := Lib.hid ((R4.out.below hb2 (Nat.le_refl _)).more hb2.size)
  have nG5 := Lib.hid (old5 G5.out hb2 (Nat.le_refl _))
  have nG6 := Lib.hid (old5 G6.out hb2 (Nat.le_refl _))
  clear hb hb2 HB R1 R2 R3 R4 G5 G6
  have HB := nHB
  have R1 := nR1
  have R2 := nR2
  have R3 := nR3
  have R4 := nR4
  have G5 := nG5
  have G6 := nG6
  clear nHB nR1 nR2 nR3 nR4 nG5 nG6
  go_wp2_with fail
  refine (ex5_h3 _ _ _ R3.out).mono ?_
  rintro e w9 ⟨rfl, hb⟩
  have nHB := Lib.hid (bel5 HB.out hb HB.out.size)
  have hb2 := hb
  have nR1 := Lib.hid ((R1.out.below hb2 (Nat.le_refl _)).more hb2.size)
  have nR2 := Lib.hid ((R2.out.below hb2 (Nat.le_refl _)).more hb2.size)
  have nR3 := Lib.hid ((R3.out.below hb2 (Nat.le_refl _)).more hb2.size)
  have nR4 := Lib.hid ((R4.out.below hb2 (Nat.le_refl _)).more hb2.size)
  have nG5 := Lib.hid (old5 G5.out hb2 (Nat.le_refl _))
  have nG6 := Lib.hid (old5 G6.out hb2 (Nat.le_refl _))
  clear hb hb2 HB R1 R2 R3 R4 G5 G6
  have HB := nHB
  have R1 := nR1
  have R2 := nR2
  have R3 := nR3
  have R4 := nR4
  have G5 := nG5
  have G6 := nG6
  clear nHB nR1 nR2 nR3 nR4 nG5 nG6
  obtain ⟨x0, x1⟩ := cells2 G5.out
  have hst := run_str (P := Tryd.prog) R4.out c4 _ _ _ Tryd.underlying22 Tryd.underlying5 Tryd.underlying9
  simp only [List.length_cons, List.length_nil, Nat.zero_add, Nat.reduceAdd] at hst
  have hconv := Lib.run_convert_bytes_const (P := Tryd.prog) w9 22 5 #[.int .u8 48, .int .u8 48] 2 2 Tryd.underlying22 Tryd.underlying5
  go_wp2_with fail
  clear hconv
  clear x0 x1 hst
  have hn10 := HB.out.alloc HB.out.size (.cells #[.int .u8 48, .int .u8 48] 5 (2, 3))
  have ha10 := (Below.refl w9.heap.size w9).alloc (Nat.le_refl _) (.cells #[.int .u8 48, .int .u8 48] 5 (2, 3))
  refine (ex5_f1 _ (w9.alloc (.cells #[.int .u8 48, .int .u8 48] 5 (2, 3))) (by exact rd_new w9 [48, 48] (2, 3)) (HT.out.below (HB.out.alloc HB.out.size _))).mono ?_
  rintro e w10 ⟨rfl, hb⟩
  have nHB := Lib.hid (bel5 hn10 hb hn10.size)
  have hb2 := bel5 ha10 hb ha10.size
  clear hn10 ha10
  have nG5 := Lib.hid (old5 G5.out hb2 (Nat.le_refl _))
  have nG6 := Lib.hid (old5 G6.out hb2 (Nat.le_refl _))
  clear hb hb2 HB G5 G6
  have HB := nHB
  have G5 := nG5
  have G6 := nG6
  clear nHB nG5 nG6
  have hconv := Lib.run_convert_bytes_const (P := Tryd.prog) w10 22 5 #[.int .u8 48] 1 1 Tryd.underlying22 Tryd.underlying5
  go_wp2_with fail
  clear hconv
  have hn11 := HB.out.alloc HB.out.size (.cells #[.int .u8 48] 5 (1, 2))
  have ha11 := (Below.refl w10.heap.size w10).alloc (Nat.le_refl _) (.cells #[.int .u8 48] 5 (1, 2))
  refine (ex5_f2 _ (w10.alloc (.cells #[.int .u8 48] 5 (1, 2))) (by exact rd_new w10 [48] (1, 2)) (HT.out.below (HB.out.alloc HB.out.size _))).mono ?_
  rintro e w11 ⟨rfl, hb⟩
  have nHB := Lib.hid (bel5 hn11 hb hn11.size)
  have hb2 := bel5 ha11 hb ha11.size
  clear hn11 ha11
  have nG5 := Lib.hid (old5 G5.out hb2 (Nat.le_refl _))
  have nG6 := Lib.hid (old5 G6.out hb2 (Nat.le_refl _))
  clear hb hb2 HB G5 G6
  have HB := nHB
  have G5 := nG5
  have G6 := nG6
  clear nHB nG5 nG6
  go_wp2_with fail
  go_ret
  exact ⟨rfl, HB.out⟩
end Go.Proofs.YtecdmdgpmbgaaaaDoor
