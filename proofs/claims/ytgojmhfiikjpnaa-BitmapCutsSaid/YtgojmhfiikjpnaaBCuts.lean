
/- BitmapCuts' walk. -/
import Derived.Test.YtgojmhfiikjpnaaBmS
import Derived.Test.YtgojmhfiikjpnaaGenZ
namespace Go.Proofs.Ytgojmhfiikjpnaa
open Go.RowKit

def one1 (L : List UInt8) (x : UInt8) : List UInt8 := (L.take 8 ++ List.replicate 8 0).set 0 (x ||| 128)
def one2 (L : List UInt8) (x : UInt8) : List UInt8 := ((one1 L x).set 8 128).set 15 1
theorem one1_length (L : List UInt8) (x : UInt8) (h : 8 ≤ L.length) : (one1 L x).length = 16 := by
  unfold one1
  rw [List.length_set, List.length_append, List.length_take, List.length_replicate]
  omega
theorem one2_length (L : List UInt8) (x : UInt8) (h : 8 ≤ L.length) : (one2 L x).length = 16 := by
  unfold one2
  rw [List.length_set, List.length_set, one1_length L x h]
theorem or128 (x : UInt8) : (x ||| 128).toNat.testBit 7 = true := by
  rw [UInt8.toNat_or, Nat.testBit_or, show (128 : UInt8).toNat.testBit 7 = true by decide, Bool.or_true]
theorem one1_0 (L : List UInt8) (x : UInt8) (h : 8 ≤ L.length) : (one1 L x)[0]? = some (x ||| 128) := by
  unfold one1
  rw [List.getElem?_set_self (by rw [List.length_append, List.length_take, List.length_replicate]; omega)]
theorem one1_spoilt (L : List UInt8) (x : UInt8) (h : 8 ≤ L.length) : (readM (one1 L x) 0).2.2 = 2 := by
  refine bm_spoilt _ (one1_length L x h) ?_ (.inr fun n h1 h2 => ?_)
  · unfold hasF
    rw [List.getD_eq_getElem?_getD, show (1 - 1) / 8 = 0 from rfl, one1_0 L x h]
    exact or128 x
  · unfold hasF one1
    rw [List.getD_eq_getElem?_getD, List.getElem?_set_ne (by omega), List.getElem?_append_right (by rw [List.length_take]; omega), List.getElem?_replicate]
    have : (n - 1) / 8 - (L.take 8).length < 8 := by rw [List.length_take]; omega
    rw [if_pos this]
    simp
theorem one2_spoilt (L : List UInt8) (x : UInt8) (h : 8 ≤ L.length) : (readM (one2 L x) 0).2.2 = 2 := by
  refine bm_spoilt _ (one2_length L x h) ?_ (.inl ?_)
  · unfold hasF one2
    rw [List.getD_eq_getElem?_getD, show (1 - 1) / 8 = 0 from rfl, List.getElem?_set_ne (by decide), List.getElem?_set_ne (by decide), one1_0 L x h]
    exact or128 x
  · unfold hasF one2
    rw [List.getD_eq_getElem?_getD, show (65 - 1) / 8 = 8 from rfl, List.getElem?_set_ne (by decide), List.getElem?_set_self (by rw [one1_length L x h]; decide)]
    decide
theorem or_u8 (a b : UInt8) : bits .or .u8 (a.toNat : Int) (b.toNat : Int) = ((a ||| b).toNat : Int) := by
  rw [u8_or_nat _ _ a.toNat_lt b.toNat_lt, UInt8.toNat_or]

set_option maxRecDepth 100000 in
set_option maxHeartbeats 4000000 in
theorem bitmapCuts_walk (A : Option Addr) (l : List Int) (c : Nat) (t : Int) (W : World) (hc : l.length ≤ c) (hcm : c ≤ 9223372036854775807) (hz : I64s l) (hr : RdI W W.heap.size A l) (ht : 0 ≤ t ∧ t ≤ 255) :
    Calls Try.prog 8 #[.slice A l.length c, .int .u8 t] W fun e W' => e = .returned (.bool true) ∧ Below W.heap.size W W' := by
  by_cases h150 : 150 < l.length
  · have i0 : (150 : Int) < (l.length : Int) := by omega
    generalize l.length = m at *
    have HB := Lib.hid (Below.refl W.heap.size W)
    go_enter Try.func8, Try.ntmps8
    go_wp2_with fail
    refine (shown6_any _).mono ?_
    rintro e w1 ⟨rfl, hb⟩
    have nHB := Lib.hid (belG HB.out hb HB.out.size)
    clear hb
    clear HB 
    have HB := nHB
    clear nHB 
    go_wp2_with fail
    go_ret
    exact ⟨rfl, HB.out⟩
  have i0 : ¬ (150 : Int) < (l.length : Int) := by omega
  have CW1 := Lib.hid (fun w (h : RdI w w.heap.size A l) => bWrite_any A l c w (by omega) hz h)
  have R0 := Lib.hid hr
  by_cases hR : ¬ RightP l
  · rw [show bmW l = [] by unfold bmW; rw [if_neg hR], show bmE l = 1 by unfold bmE; rw [if_neg hR]] at CW1
    clear h150 hR hr hc hcm hz
    generalize l.length = m at *
    have HB := Lib.hid (Below.refl W.heap.size W)
    go_enter Try.func8, Try.ntmps8
    go_wp2_with fail
    refine (shown6_any _).mono ?_
    rintro e w1 ⟨rfl, hb⟩
    have nHB := Lib.hid (belG HB.out hb HB.out.size)
    have nR0 := Lib.hid ((R0.out.below hb (Nat.le_refl _)).more hb.size)
    clear hb
    clear HB R0
    have HB := nHB
    have R0 := nR0
    clear nHB nR0
    go_wp2_with fail
    refine (CW1.out _ R0.out).mono ?_
    rintro e w2 ⟨⟨A1, c1, rfl, -, -, -⟩, hb⟩
    have nHB := Lib.hid (belG HB.out hb HB.out.size)
    have nR0 := Lib.hid ((R0.out.below hb (Nat.le_refl _)).more hb.size)
    clear hb
    clear HB R0
    have HB := nHB
    have R0 := nR0
    clear nHB nR0
    go_wp2_with fail
    go_ret
    exact ⟨rfl, HB.out⟩
  have hR : RightP l := Classical.byContradiction hR
  rw [show bmW l = writeB l by unfold bmW; rw [if_pos hR], show bmE l = 0 by unfold bmE; rw [if_pos hR]] at CW1
  obtain ⟨tn, rfl⟩ := Int.eq_ofNat_of_zero_le ht.1
  have hsz := sizeB_or (wideF l)
  rw [← writeB_length] at hsz
  have hN0 : 0 < (writeB l).length := by omega
  obtain ⟨q, hq⟩ : ∃ q, q = tn % (writeB l).length := ⟨_, rfl⟩
  have hqN : q < (writeB l).length := by rw [hq]; exact Nat.mod_lt _ hN0
  have i4 : (tn : Int).tmod ((writeB l).length : Int) = (q : Int) := by rw [Int.tmod_eq_emod_of_nonneg (by omega), hq]; push_cast; rfl
  have i5 : (tn : Int) % ((writeB l).length : Int) = (q : Int) := by rw [hq]; push_cast; rfl
  have CC := Lib.hid (fun (A1 : Option Addr) (c1 : Nat) (w : World) (h1 : (writeB l).length ≤ c1) (h2 : c1 ≤ 9223372036854775807) (h : Rd w w.heap.size A1 (writeB l)) => (show Calls Try.prog 17 #[.slice A1 q c1, .int .i64 0] w fun e W' => (∃ l' n' i', AnsI3 W' e l' n' i' 3) ∧ Below w.heap.size w W' from by
    have h9 := bRead_any A1 ((writeB l).take q) c1 0 w (by rw [List.length_take]; omega) (by rw [List.length_take]; omega) h2 (by decide) (rd_takeG h q)
    rw [show ((writeB l).take q).length = q by rw [List.length_take]; omega, bm_read_cut q hR hqN] at h9
    exact h9.mono fun e W' h => ⟨⟨_, _, _, h.1⟩, h.2⟩))
  have HL8 := Lib.hid (show 8 ≤ (writeB l).length by omega)
  have ht2 := ht.2
  have hsz2 : 8 ≤ (writeB l).length ∧ (writeB l).length ≤ 16 := by omega
  clear h150 hc hcm hz hr ht hq hR hsz
  generalize writeB l = L at *
  have CX1 := Lib.hid (fun (x : UInt8) g cap (w : World) (h1 : 16 ≤ cap) (h2 : cap ≤ 9223372036854775807) (h : Rd w w.heap.size (some ⟨g, 0, none⟩) (one1 L x)) => (show Calls Try.prog 17 #[.slice (some ⟨g, 0, none⟩) 16 cap, .int .i64 0] w fun e W' => (∃ l' n' i', AnsI3 W' e l' n' i' 2) ∧ Below w.heap.size w W' from by
    have h9 := bRead_any (some ⟨g, 0, none⟩) (one1 L x) cap 0 w (by rw [one1_length L x HL8.out]; decide) (by rw [one1_length L x HL8.out]; exact h1) h2 (by decide) h
    rw [one1_length L x HL8.out, one1_spoilt L x HL8.out] at h9
    exact h9.mono fun e W' h => ⟨⟨_, _, _, h.1⟩, h.2⟩))
  have CX2 := Lib.hid (fun (x : UInt8) g cap (w : World) (h1 : 16 ≤ cap) (h2 : cap ≤ 9223372036854775807) (h : Rd w w.heap.size (some ⟨g, 0, none⟩) (one2 L x)) => (show Calls Try.prog 17 #[.slice (some ⟨g, 0, none⟩) 16 cap, .int .i64 0] w fun e W' => (∃ l' n' i', AnsI3 W' e l' n' i' 2) ∧ Below w.heap.size w W' from by
    have h9 := bRead_any (some ⟨g, 0, none⟩) (one2 L x) cap 0 w (by rw [one2_length L x HL8.out]; decide) (by rw [one2_length L x HL8.out]; exact h1) h2 (by decide) h
    rw [one2_length L x HL8.out, one2_spoilt L x HL8.out] at h9
    exact h9.mono fun e W' h => ⟨⟨_, _, _, h.1⟩, h.2⟩))
  have HT8 := Lib.hid (show 8 = (L.take 8).length by have := HL8.out; rw [List.length_take]; omega)
  have HLX := Lib.hid (show (L.take 8 ++ List.replicate 8 0).length = 16 by have := HL8.out; rw [List.length_append, List.length_take, List.length_replicate]; omega)
  generalize l.length = m at *
  obtain ⟨N, hN⟩ : ∃ N, N = L.length := ⟨_, rfl⟩
  rw [← hN] at CW1 CC hqN i4 i5 hsz2
  clear hN hN0
  have hN8 : ¬ (N : Int) < 8 := by omega
  have hN8b : (8 : Int) ≤ (N : Int) := by omega
  have j2 : (q : Int) < (N : Int) := by omega
  have j3 : (0 : Int) ≤ (q : Int) := by omega
  have j4 : ((N : Int) == 0) = false := beq_eq_false_iff_ne.2 (by omega)
  have j1 : ¬ (N : Int) = 0 := by omega
  have HB := Lib.hid (Below.refl W.heap.size W)
  go_enter Try.func8, Try.ntmps8
  go_wp2_with fail
  refine (shown6_any _).mono ?_
  rintro e w1 ⟨rfl, hb⟩
  have nHB := Lib.hid (belG HB.out hb HB.out.size)
  have nR0 := Lib.hid ((R0.out.below hb (Nat.le_refl _)).more hb.size)
  clear hb
  clear HB R0
  have HB := nHB
  have R0 := nR0
  clear nHB nR0
  go_wp2_with fail
  refine (CW1.out _ R0.out).mono ?_
  rintro e w2 ⟨⟨A1, c1, rfl, h1a, h1b, h1⟩, hb⟩
  have nHB := Lib.hid (belG HB.out hb HB.out.size)
  have nR0 := Lib.hid ((R0.out.below hb (Nat.le_refl _)).more hb.size)
  clear hb
  clear HB R0
  have HB := nHB
  have R0 := nR0
  clear nHB nR0
  have R1 := Lib.hid h1
  clear h1
  have j5 : (q : Int) ≤ (c1 : Int) := by omega
  have j6 : (8 : Int) ≤ (c1 : Int) := by omega
  go_wp2_with fail
  refine (CC.out A1 c1 _ h1a h1b R1.out).mono ?_
  rintro e w3 ⟨⟨l3, n3, i3, A3, c3, rfl, -, -, -⟩, hb⟩
  have nHB := Lib.hid (belG HB.out hb HB.out.size)
  have nR0 := Lib.hid ((R0.out.below hb (Nat.le_refl _)).more hb.size)
  have nR1 := Lib.hid ((R1.out.below hb (Nat.le_refl _)).more hb.size)
  clear hb
  clear HB R0 R1
  have HB := nHB
  have R0 := nR0
  have R1 := nR1
  clear nHB nR0 nR1
  go_wp2_with (first
    | (at_builtin; refine wpList_appS _ rfl (.tmp 52) (.tmp 54) rfl w3.heap.size _ [] (L.take 8) rfl (by exact Ow.made0 w3 (Nat.le_refl _)) A1 8 c1 (w3.alloc (.cells #[] 5)).heap.size rfl HT8.out (by exact (rd_takeG R1.out 8).below ((Below.refl w3.heap.size w3).alloc (Nat.le_refl _) _) (Nat.le_refl _) |>.more (by exact le_alloc (Nat.le_refl _) _)) (by rw [← HT8.out]; show 0 + 8 ≤ _; omega) (by exact le_alloc (Nat.le_refl _) _) ?_; intro v5 w5 hown5 hgrow5; have hb5 := Ow.below (w0 := w3) (by exact Ow.made0 w3 (Nat.le_refl _)) (by exact (Below.refl w3.heap.size w3).alloc (Nat.le_refl _) _) hgrow5 (by exact le_alloc (Nat.le_refl _) _); have HB5 := Lib.hid hb5; rw [List.nil_append] at hown5; obtain ⟨g5, c5, e5, hg5, -⟩ := World.ownsRow.form hown5 (by rw [← HT8.out]; decide); rw [← HT8.out] at e5; subst e5; have HO5 := Lib.hid hown5; clear hown5 hgrow5 hb5 hg5)
    | (at_builtin; refine wpList_appZG _ rfl (.tmp 55) (.const (.int .i64 8)) rfl w3.heap.size g5 8 c5 (L.take 8) 8 rfl rfl HO5.out (by decide) (by decide) (by rw [← HT8.out]; decide) HB5.out.size ?_; intro v6 w6' hown6 hgrow6; have hb6 := Ow.below HO5.out HB5.out hgrow6 HB5.out.size; obtain ⟨g6, c6, e6, hg6, -⟩ := World.ownsRow.form hown6 (by rw [HLX.out]; decide); rw [HLX.out] at e6; subst e6; have HO6 := Lib.hid hown6; have HBX := Lib.hid hb6; obtain ⟨-, bd1, bd2, bd3, bd4⟩ := Ow.bdG HO6.out; rw [HLX.out] at bd1; have hc0 := Ow.cellG HO6.out 0 (by rw [HLX.out]; decide); have hf0 := Ow.thawG HO6.out 0; obtain ⟨x, hx⟩ : ∃ x, x = (L.take 8 ++ List.replicate 8 0)[0]'(by rw [HLX.out]; decide) := ⟨_, rfl⟩; rw [← hx] at hc0; have hor := or_u8 x 128; have hor : bits .or .u8 (x.toNat : Int) 128 = ((x ||| 128).toNat : Int) := hor; obtain ⟨z, hz⟩ : ∃ z, z = x ||| 128 := ⟨_, rfl⟩; rw [← hz] at hor; have HZ := Lib.hid hz; clear hz; clear hx hown6 hgrow6 hb6 hg6 HO5 HB5))
  have HGW := Lib.hid (Nat.le_trans HB.out.size bd3)
  have hs1 : Ow (w6'.setCell ⟨g6, 0, none⟩ (.int .u8 (z.toNat : Int))) w3.heap.size (.slice (some ⟨g6, 0, none⟩) 16 c6) (one1 L x) := by
    unfold one1
    rw [← HZ.out]
    exact HO6.out.setG 0 z
  have hbx := HBX.out.setCell (p := ⟨g6, 0, none⟩) bd3 (.int .u8 (z.toNat : Int))
  have nHB := Lib.hid (belG HB.out hbx HB.out.size)
  generalize w6'.setCell ⟨g6, 0, none⟩ (.int .u8 (z.toNat : Int)) = w6 at *
  clear hc0 hf0 hor HO6 HBX
  have nR0 := Lib.hid ((R0.out.below hbx (Nat.le_refl _)).more hbx.size)
  have nR1 := Lib.hid ((R1.out.below hbx (Nat.le_refl _)).more hbx.size)
  have HBX := Lib.hid hbx
  have HO6 := Lib.hid hs1
  clear hs1 hbx
  clear HB R0 R1
  have HB := nHB
  have R0 := nR0
  have R1 := nR1
  clear nHB nR0 nR1
  refine (CX1.out x g6 c6 _ bd1 bd2 HO6.out.rdG).mono ?_
  rintro e w7 ⟨⟨l7, n7, i7, A7, c7, rfl, -, -, -⟩, hb⟩
  have HBY := Lib.hid (belG HBX.out hb HBX.out.size)
  have HO7 := Lib.hid (HO6.out.callG hb)
  have nHB := Lib.hid (belG HB.out hb HB.out.size)
  have nR0 := Lib.hid ((R0.out.below hb (Nat.le_refl _)).more hb.size)
  have nR1 := Lib.hid ((R1.out.below hb (Nat.le_refl _)).more hb.size)
  clear hb HO6 HBX
  clear HB R0 R1
  have HB := nHB
  have R0 := nR0
  have R1 := nR1
  clear nHB nR0 nR1
  have HO8 := Lib.hid (show Ow (w7.setCell ⟨g6, 8, none⟩ (.int .u8 128)) w3.heap.size (.slice (some ⟨g6, 0, none⟩) 16 c6) ((one1 L x).set 8 128) from HO7.out.setG 8 128)
  have HO9 := Lib.hid (show Ow ((w7.setCell ⟨g6, 8, none⟩ (.int .u8 128)).setCell ⟨g6, 15, none⟩ (.int .u8 1)) w3.heap.size (.slice (some ⟨g6, 0, none⟩) 16 c6) (one2 L x) from HO8.out.setG 15 1)
  have hc8 := Ow.cellG HO7.out 8 (by rw [one1_length L x HL8.out]; decide)
  have hf8 := Ow.thawG HO7.out 8
  have hc15 := Ow.cellG HO8.out 15 (by rw [List.length_set, one1_length L x HL8.out]; decide)
  have hf15 := Ow.thawG HO8.out 15
  generalize (one1 L x)[8]'(by rw [one1_length L x HL8.out]; decide) = y8 at hc8
  generalize ((one1 L x).set 8 128)[15]'(by rw [List.length_set, one1_length L x HL8.out]; decide) = y15 at hc15
  go_wp2_with fail
  have hby := (HBY.out.setCell (p := ⟨g6, 8, none⟩) bd3 (.int .u8 128)).setCell (p := ⟨g6, 15, none⟩) bd3 (.int .u8 1)
  have HB9 := Lib.hid ((HB.out.setCell (p := ⟨g6, 8, none⟩) HGW.out (.int .u8 128)).setCell (p := ⟨g6, 15, none⟩) HGW.out (.int .u8 1))
  generalize (w7.setCell ⟨g6, 8, none⟩ (.int .u8 128)).setCell ⟨g6, 15, none⟩ (.int .u8 1) = w9 at *
  clear hc8 hf8 hc15 hf15 hby HO8
  refine (CX2.out x g6 c6 _ bd1 bd2 HO9.out.rdG).mono ?_
  rintro e wA ⟨⟨lA, nA, iA, AA, cA, rfl, -, -, -⟩, hb⟩
  have HBA := Lib.hid (belG HB9.out hb HB9.out.size)
  clear hb
  go_wp2_with fail
  go_ret
  exact ⟨by first | rfl | simp, HBA.out⟩
end Go.Proofs.Ytgojmhfiikjpnaa
