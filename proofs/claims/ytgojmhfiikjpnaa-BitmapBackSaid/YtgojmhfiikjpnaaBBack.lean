
/- BitmapBack's walk. -/
import Derived.Test.YtgojmhfiikjpnaaBmS
namespace Go.Proofs.Ytgojmhfiikjpnaa
open Go.RowKit

set_option maxRecDepth 100000 in
set_option maxHeartbeats 4000000 in
theorem bitmapBack_walk (A : Option Addr) (l : List Int) (c : Nat) (B : Option Addr) (u : List UInt8) (d : Nat) (t : Int) (W : World) (hc : l.length ≤ c) (hcm : c ≤ 9223372036854775807) (hz : I64s l) (hr : RdI W W.heap.size A l) (hd : u.length ≤ d) (hdm : d ≤ 9223372036854775807) (hs : Rd W W.heap.size B u) (ht : 0 ≤ t ∧ t ≤ 255) :
    Calls Try.prog 5 #[.slice A l.length c, .slice B u.length d, .int .u8 t] W fun e W' => e = .returned (.bool true) ∧ Below W.heap.size W W' := by
  have R0 := Lib.hid hr
  have S0 := Lib.hid hs
  by_cases h150 : 150 < l.length
  · have i0 : (150 : Int) < (l.length : Int) := by omega
    clear hr hs
    generalize l.length = m at *
    generalize u.length = m2 at *
    have HB := Lib.hid (Below.refl W.heap.size W)
    go_enter Try.func5, Try.ntmps5
    go_wp2_with fail
    refine (shown6_any _).mono ?_
    rintro e w1 ⟨rfl, hb⟩
    have nHB := Lib.hid (belG HB.out hb HB.out.size)
    have nR0 := Lib.hid ((R0.out.below hb (Nat.le_refl _)).more hb.size)
    have nS0 := Lib.hid ((S0.out.below hb (Nat.le_refl _)).more hb.size)
    clear hb
    clear HB R0 S0
    have HB := nHB
    have R0 := nR0
    have S0 := nS0
    clear nHB nR0 nS0
    go_wp2_with fail
    go_ret
    exact ⟨rfl, HB.out⟩
  by_cases h100 : 100 < u.length
  · have i0 : ¬ (150 : Int) < (l.length : Int) := by omega
    have i1 : (100 : Int) < (u.length : Int) := by omega
    clear hr hs
    generalize l.length = m at *
    generalize u.length = m2 at *
    have HB := Lib.hid (Below.refl W.heap.size W)
    go_enter Try.func5, Try.ntmps5
    go_wp2_with fail
    refine (shown6_any _).mono ?_
    rintro e w1 ⟨rfl, hb⟩
    have nHB := Lib.hid (belG HB.out hb HB.out.size)
    have nR0 := Lib.hid ((R0.out.below hb (Nat.le_refl _)).more hb.size)
    have nS0 := Lib.hid ((S0.out.below hb (Nat.le_refl _)).more hb.size)
    clear hb
    clear HB R0 S0
    have HB := nHB
    have R0 := nR0
    have S0 := nS0
    clear nHB nR0 nS0
    go_wp2_with fail
    go_ret
    exact ⟨rfl, HB.out⟩
  have i0 : ¬ (150 : Int) < (l.length : Int) := by omega
  have i1 : ¬ (100 : Int) < (u.length : Int) := by omega
  have CW1 := Lib.hid (fun w (h : RdI w w.heap.size A l) => bWrite_any A l c w (by omega) hz h)
  have CR1 := Lib.hid (fun w (h : RdI w w.heap.size A l) => bRight_any A l c w (by omega) hz h)
  obtain ⟨tn, rfl⟩ := Int.eq_ofNat_of_zero_le ht.1
  obtain ⟨j, hj⟩ : ∃ j, j = tn % (u.length + 1) := ⟨_, rfl⟩
  have hjm : j ≤ u.length := by have := Nat.mod_lt tn (show 0 < u.length + 1 by omega); omega
  have i4 : (tn : Int).tmod ((u.length : Int) + 1) = (j : Int) := by rw [Int.tmod_eq_emod_of_nonneg (by omega), hj]; push_cast; rfl
  have i5 : (tn : Int) % ((u.length : Int) + 1) = (j : Int) := by rw [hj]; push_cast; rfl
  have CD2 := Lib.hid (fun w (h : Rd w w.heap.size B u) => bRead_any B u d (j : Int) w (by omega) hd hdm (by omega) h)
  have hok := bm_read_ok u j
  have hbad := readM_bad u (j : Int)
  have hxl := readM_len u (j : Int)
  obtain ⟨X, hX⟩ : ∃ X, X = readM u (j : Int) := ⟨_, rfl⟩
  rw [← hX] at CD2 hok hbad hxl
  have ht2 := ht.2
  have HUD := Lib.hid hd
  have HU5 := Lib.hid (show u.length ≤ 100 by omega)
  have HL5 := Lib.hid (show l.length ≤ 150 by omega)
  clear hj hX ht hr hs hc hcm hz
  by_cases hR : RightP l
  · have hwl := bm_read_back u hR
    have hsz := sizeB_or (wideF l)
    rw [← writeB_length] at hsz
    have SI := Lib.hid (fun (A1 : Option Addr) (c1 : Nat) (w : World) (h1 : RdI w w.heap.size A1 l) (h2 : RdI w w.heap.size A l) => refInts_any A1 A l l c1 c w (by have := HL5.out; omega) (by have := HL5.out; omega) h1 h2)
    simp only [decide_true] at SI
    rw [show bmW l = writeB l by unfold bmW; rw [if_pos hR], show bmE l = 0 by unfold bmE; rw [if_pos hR]] at CW1
    rw [decide_eq_true hR] at CR1
    obtain ⟨L12, hL12⟩ : ∃ L, L = writeB l ++ u := ⟨_, rfl⟩
    rw [← hL12] at hwl
    have hl12 : L12.length ≤ 116 := by rw [hL12, List.length_append]; omega
    have CD1 := Lib.hid (fun (A6 : Option Addr) (c6 : Nat) (w : World) (h1 : L12.length ≤ c6) (h2 : c6 ≤ 9223372036854775807) (h : Rd w w.heap.size A6 L12) => bRead_any A6 L12 c6 0 w (by omega) h1 h2 (by decide) h)
    rw [hwl] at CD1
    have HL12 := Lib.hid hL12
    clear h150 h100 hd hdm hR hwl hL12 hl12
    generalize writeB l = L1 at *
    obtain ⟨N1, hN1⟩ : ∃ N, N = L1.length := ⟨_, rfl⟩
    have HN1 := Lib.hid hN1
    rw [← hN1] at CW1 CD1 hsz
    have HW1 := Lib.hid (show N1 ≤ 16 by omega)
    clear hN1
    have HSZ := Lib.hid hsz
    clear hsz
    by_cases hs8 : N1 = 8
    · have s8 : ((N1 : Int) != 8) = false := by rw [hs8]; rfl
      clear hs8
      by_cases hx : X.2.2 = 0
      · obtain ⟨en, f1, f2, f3, f4, f5⟩ := hok hx
        have CW3 := Lib.hid (fun (A3 : Option Addr) (c3 : Nat) (w : World) (h : RdI w w.heap.size A3 X.1) => bWrite_any A3 X.1 c3 w (by omega) f1.i64 h)
        have CR3 := Lib.hid (fun (A3 : Option Addr) (c3 : Nat) (w : World) (h : RdI w w.heap.size A3 X.1) => bRight_any A3 X.1 c3 w (by omega) f1.i64 h)
        rw [show bmW X.1 = writeB X.1 by unfold bmW; rw [if_pos f1], show bmE X.1 = 0 by unfold bmE; rw [if_pos f1]] at CW3
        rw [decide_eq_true f1] at CR3
        have hcut : ∀ w, Rd w w.heap.size B u → Rd w w.heap.size (B.map (fun x => x.add j)) (writeB X.1) := by
          intro w h
          have h9 := h.cut j (en - j) d (by omega) HUD.out
          rw [if_neg (by have := HUD.out; omega), Nat.mul_one, ← f5] at h9
          exact h9
        have hl3 : (writeB X.1).length = en - j := by rw [f5, List.length_take, List.length_drop]; omega
        have HCUT := Lib.hid hcut
        have SM3 := Lib.hid (fun (A4 : Option Addr) (c4 : Nat) (w : World) (h1 : Rd w w.heap.size A4 (writeB X.1)) (h2 : Rd w w.heap.size (B.map (fun x => x.add j)) (writeB X.1)) => same_any A4 (B.map (fun x => x.add j)) (writeB X.1) (writeB X.1) c4 (d - j) _ _ w h1 h2)
        simp only [decide_true] at SM3
        rw [hl3] at SM3 CW3
        rw [f2, hx] at CD2
        have k1 : (j : Int) ≤ (en : Int) := by omega
        have k2 : (en : Int) ≤ (u.length : Int) := by omega
        have k3 : (en : Int) ≤ (d : Int) := by have := HUD.out; omega
        have k4 : (en : Int).toNat - j = en - j := by omega
        have k5 : ¬ d = j := by have := HUD.out; omega
        have k6 : (0 : Int) ≤ (j : Int) := Int.natCast_nonneg _
        have k7 : (j : Int) < (en : Int) := by omega
        clear hok hbad hxl f1 f2 f4 f5 hcut hl3 hx HUD
        generalize writeB X.1 = L3 at *
        generalize X.1 = Y at *
        generalize Y.length = N3 at *
        obtain ⟨m2, hm2⟩ : ∃ x, x = u.length := ⟨_, rfl⟩
        have HMU := Lib.hid hm2
        rw [← hm2] at i1 i4 i5 hjm CD2 HU5 ⊢
        rw [← hm2] at k2
        clear hm2
        generalize l.length = m at *
        have HB := Lib.hid (Below.refl W.heap.size W)
        go_enter Try.func5, Try.ntmps5
        go_wp2_with fail
        refine (shown6_any _).mono ?_
        rintro e w1 ⟨rfl, hb⟩
        have nHB := Lib.hid (belG HB.out hb HB.out.size)
        have nR0 := Lib.hid ((R0.out.below hb (Nat.le_refl _)).more hb.size)
        have nS0 := Lib.hid ((S0.out.below hb (Nat.le_refl _)).more hb.size)
        clear hb
        clear HB R0 S0
        have HB := nHB
        have R0 := nR0
        have S0 := nS0
        clear nHB nR0 nS0
        go_wp2_with fail
        refine (CW1.out _ R0.out).mono ?_
        rintro e w2 ⟨⟨A1, c1, rfl, -, -, h1⟩, hb⟩
        have nHB := Lib.hid (belG HB.out hb HB.out.size)
        have nR0 := Lib.hid ((R0.out.below hb (Nat.le_refl _)).more hb.size)
        have nS0 := Lib.hid ((S0.out.below hb (Nat.le_refl _)).more hb.size)
        clear hb
        clear HB R0 S0
        have HB := nHB
        have R0 := nR0
        have S0 := nS0
        clear nHB nR0 nS0
        have R1 := Lib.hid h1
        clear h1
        go_wp2_with fail
        refine (CR1.out _ R0.out).mono ?_
        rintro e w3 ⟨rfl, hb⟩
        have nHB := Lib.hid (belG HB.out hb HB.out.size)
        have nR0 := Lib.hid ((R0.out.below hb (Nat.le_refl _)).more hb.size)
        have nS0 := Lib.hid ((S0.out.below hb (Nat.le_refl _)).more hb.size)
        have nR1 := Lib.hid ((R1.out.below hb (Nat.le_refl _)).more hb.size)
        clear hb
        clear HB R0 S0 R1
        have HB := nHB
        have R0 := nR0
        have S0 := nS0
        have R1 := nR1
        clear nHB nR0 nS0 nR1
        go_wp2_with (first
          | (at_builtin; refine wpList_appS _ rfl (.tmp 42) (.tmp 43) rfl w3.heap.size _ [] L1 rfl (by exact Ow.made0 w3 (Nat.le_refl _)) _ _ _ _ rfl HN1.out (by exact R1.out.below ((Below.refl w3.heap.size w3).alloc (Nat.le_refl _) _) (Nat.le_refl _)) (by have := HW1.out; have := HN1.out; show 0 + List.length L1 ≤ 100000000; omega) (by exact le_alloc (Nat.le_refl _) _) ?_; intro v5 w5 hown5 hgrow5; have hb5 := Ow.below (w0 := w3) (by exact Ow.made0 w3 (Nat.le_refl _)) (by exact (Below.refl w3.heap.size w3).alloc (Nat.le_refl _) _) hgrow5 (by exact le_alloc (Nat.le_refl _) _); have HB5 := Lib.hid hb5; rw [List.nil_append] at hown5; have HO5 := Lib.hid hown5; clear hown5 hgrow5 hb5)
          | (at_builtin; refine wpList_appS _ rfl (.tmp 44) (.tmp 45) rfl w3.heap.size _ L1 u rfl HO5.out _ _ _ _ rfl HMU.out (by exact S0.out.below HB5.out (Nat.le_refl _)) (by have := HW1.out; have := HN1.out; have := HU5.out; have := HMU.out; omega) (by exact HB5.out.size) ?_; intro v6 w6' hown6 hgrow6; have hb6 := Ow.below HO5.out HB5.out hgrow6 HB5.out.size; have HB6 := Lib.hid hb6; rw [← HL12.out] at hown6; obtain ⟨A6, c6, e6, q1, q2, q3⟩ := hown6.form; subst e6; have Q1 := Lib.hid q1; have Q2 := Lib.hid q2; have Q3 := Lib.hid q3; clear hown6 hgrow6 hb6 q1 q2 q3))
        have hb6 := HB6.out
        have nHB := Lib.hid (belG HB.out hb6 HB.out.size)
        have nR0 := Lib.hid ((R0.out.below hb6 (Nat.le_refl _)).more hb6.size)
        have nS0 := Lib.hid ((S0.out.below hb6 (Nat.le_refl _)).more hb6.size)
        have nR1 := Lib.hid ((R1.out.below hb6 (Nat.le_refl _)).more hb6.size)
        clear hb6 HB5 HO5 HB6
        clear HB R0 S0 R1
        have HB := nHB
        have R0 := nR0
        have S0 := nS0
        have R1 := nR1
        clear nHB nR0 nS0 nR1
        refine (CD1.out A6 c6 _ Q1.out Q2.out Q3.out).mono ?_
        rintro e w4 ⟨⟨A7, c7, rfl, -, -, h7⟩, hb⟩
        have nHB := Lib.hid (belG HB.out hb HB.out.size)
        have nR0 := Lib.hid ((R0.out.below hb (Nat.le_refl _)).more hb.size)
        have nS0 := Lib.hid ((S0.out.below hb (Nat.le_refl _)).more hb.size)
        have nR1 := Lib.hid ((R1.out.below hb (Nat.le_refl _)).more hb.size)
        clear hb
        clear HB R0 S0 R1
        have HB := nHB
        have R0 := nR0
        have S0 := nS0
        have R1 := nR1
        clear nHB nR0 nS0 nR1
        have R7 := Lib.hid h7
        clear h7
        go_wp2_with fail
        refine (SI.out A7 c7 _ R7.out R0.out).mono ?_
        rintro e w5 ⟨rfl, hb⟩
        have nHB := Lib.hid (belG HB.out hb HB.out.size)
        have nR0 := Lib.hid ((R0.out.below hb (Nat.le_refl _)).more hb.size)
        have nS0 := Lib.hid ((S0.out.below hb (Nat.le_refl _)).more hb.size)
        have nR1 := Lib.hid ((R1.out.below hb (Nat.le_refl _)).more hb.size)
        have nR7 := Lib.hid ((R7.out.below hb (Nat.le_refl _)).more hb.size)
        clear hb
        clear HB R0 S0 R1 R7
        have HB := nHB
        have R0 := nR0
        have S0 := nS0
        have R1 := nR1
        have R7 := nR7
        clear nHB nR0 nS0 nR1 nR7
        go_wp2_with fail
        refine (CD2.out _ S0.out).mono ?_
        rintro e w6 ⟨⟨A8, c8, rfl, -, -, h8⟩, hb⟩
        have nHB := Lib.hid (belG HB.out hb HB.out.size)
        have nR0 := Lib.hid ((R0.out.below hb (Nat.le_refl _)).more hb.size)
        have nS0 := Lib.hid ((S0.out.below hb (Nat.le_refl _)).more hb.size)
        have nR1 := Lib.hid ((R1.out.below hb (Nat.le_refl _)).more hb.size)
        have nR7 := Lib.hid ((R7.out.below hb (Nat.le_refl _)).more hb.size)
        clear hb
        clear HB R0 S0 R1 R7
        have HB := nHB
        have R0 := nR0
        have S0 := nS0
        have R1 := nR1
        have R7 := nR7
        clear nHB nR0 nS0 nR1 nR7
        have R8 := Lib.hid h8
        clear h8
        go_wp2_with fail
        refine (CW3.out A8 c8 _ R8.out).mono ?_
        rintro e w7 ⟨⟨A9, c9, rfl, -, -, h9⟩, hb⟩
        have nHB := Lib.hid (belG HB.out hb HB.out.size)
        have nR0 := Lib.hid ((R0.out.below hb (Nat.le_refl _)).more hb.size)
        have nS0 := Lib.hid ((S0.out.below hb (Nat.le_refl _)).more hb.size)
        have nR1 := Lib.hid ((R1.out.below hb (Nat.le_refl _)).more hb.size)
        have nR7 := Lib.hid ((R7.out.below hb (Nat.le_refl _)).more hb.size)
        have nR8 := Lib.hid ((R8.out.below hb (Nat.le_refl _)).more hb.size)
        clear hb
        clear HB R0 S0 R1 R7 R8
        have HB := nHB
        have R0 := nR0
        have S0 := nS0
        have R1 := nR1
        have R7 := nR7
        have R8 := nR8
        clear nHB nR0 nS0 nR1 nR7 nR8
        have R9 := Lib.hid h9
        clear h9
        go_wp2_with fail
        refine (CR3.out A8 c8 _ R8.out).mono ?_
        rintro e w8 ⟨rfl, hb⟩
        have nHB := Lib.hid (belG HB.out hb HB.out.size)
        have nR0 := Lib.hid ((R0.out.below hb (Nat.le_refl _)).more hb.size)
        have nS0 := Lib.hid ((S0.out.below hb (Nat.le_refl _)).more hb.size)
        have nR1 := Lib.hid ((R1.out.below hb (Nat.le_refl _)).more hb.size)
        have nR7 := Lib.hid ((R7.out.below hb (Nat.le_refl _)).more hb.size)
        have nR8 := Lib.hid ((R8.out.below hb (Nat.le_refl _)).more hb.size)
        have nR9 := Lib.hid ((R9.out.below hb (Nat.le_refl _)).more hb.size)
        clear hb
        clear HB R0 S0 R1 R7 R8 R9
        have HB := nHB
        have R0 := nR0
        have S0 := nS0
        have R1 := nR1
        have R7 := nR7
        have R8 := nR8
        have R9 := nR9
        clear nHB nR0 nS0 nR1 nR7 nR8 nR9
        go_wp2_with fail
        refine (SM3.out A9 c9 _ R9.out (HCUT.out _ S0.out)).mono ?_
        rintro e w9 ⟨rfl, rfl⟩
        go_wp2_with fail
        go_ret
        exact ⟨by first | rfl | simp, HB.out⟩
      · obtain ⟨b1, b2⟩ := hbad hx
        have hxb : (X.2.2 != 0) = true := by simpa using hx
        rw [b1, b2] at CD2
        clear hok hbad hxl b1 b2 hx HUD
        generalize X.2.2 = X3 at *
        obtain ⟨m2, hm2⟩ : ∃ x, x = u.length := ⟨_, rfl⟩
        have HMU := Lib.hid hm2
        rw [← hm2] at i1 i4 i5 hjm CD2 HU5 ⊢
        clear hm2
        generalize l.length = m at *
        have HB := Lib.hid (Below.refl W.heap.size W)
        go_enter Try.func5, Try.ntmps5
        go_wp2_with fail
        refine (shown6_any _).mono ?_
        rintro e w1 ⟨rfl, hb⟩
        have nHB := Lib.hid (belG HB.out hb HB.out.size)
        have nR0 := Lib.hid ((R0.out.below hb (Nat.le_refl _)).more hb.size)
        have nS0 := Lib.hid ((S0.out.below hb (Nat.le_refl _)).more hb.size)
        clear hb
        clear HB R0 S0
        have HB := nHB
        have R0 := nR0
        have S0 := nS0
        clear nHB nR0 nS0
        go_wp2_with fail
        refine (CW1.out _ R0.out).mono ?_
        rintro e w2 ⟨⟨A1, c1, rfl, -, -, h1⟩, hb⟩
        have nHB := Lib.hid (belG HB.out hb HB.out.size)
        have nR0 := Lib.hid ((R0.out.below hb (Nat.le_refl _)).more hb.size)
        have nS0 := Lib.hid ((S0.out.below hb (Nat.le_refl _)).more hb.size)
        clear hb
        clear HB R0 S0
        have HB := nHB
        have R0 := nR0
        have S0 := nS0
        clear nHB nR0 nS0
        have R1 := Lib.hid h1
        clear h1
        go_wp2_with fail
        refine (CR1.out _ R0.out).mono ?_
        rintro e w3 ⟨rfl, hb⟩
        have nHB := Lib.hid (belG HB.out hb HB.out.size)
        have nR0 := Lib.hid ((R0.out.below hb (Nat.le_refl _)).more hb.size)
        have nS0 := Lib.hid ((S0.out.below hb (Nat.le_refl _)).more hb.size)
        have nR1 := Lib.hid ((R1.out.below hb (Nat.le_refl _)).more hb.size)
        clear hb
        clear HB R0 S0 R1
        have HB := nHB
        have R0 := nR0
        have S0 := nS0
        have R1 := nR1
        clear nHB nR0 nS0 nR1
        go_wp2_with (first
          | (at_builtin; refine wpList_appS _ rfl (.tmp 42) (.tmp 43) rfl w3.heap.size _ [] L1 rfl (by exact Ow.made0 w3 (Nat.le_refl _)) _ _ _ _ rfl HN1.out (by exact R1.out.below ((Below.refl w3.heap.size w3).alloc (Nat.le_refl _) _) (Nat.le_refl _)) (by have := HW1.out; have := HN1.out; show 0 + List.length L1 ≤ 100000000; omega) (by exact le_alloc (Nat.le_refl _) _) ?_; intro v5 w5 hown5 hgrow5; have hb5 := Ow.below (w0 := w3) (by exact Ow.made0 w3 (Nat.le_refl _)) (by exact (Below.refl w3.heap.size w3).alloc (Nat.le_refl _) _) hgrow5 (by exact le_alloc (Nat.le_refl _) _); have HB5 := Lib.hid hb5; rw [List.nil_append] at hown5; have HO5 := Lib.hid hown5; clear hown5 hgrow5 hb5)
          | (at_builtin; refine wpList_appS _ rfl (.tmp 44) (.tmp 45) rfl w3.heap.size _ L1 u rfl HO5.out _ _ _ _ rfl HMU.out (by exact S0.out.below HB5.out (Nat.le_refl _)) (by have := HW1.out; have := HN1.out; have := HU5.out; have := HMU.out; omega) (by exact HB5.out.size) ?_; intro v6 w6' hown6 hgrow6; have hb6 := Ow.below HO5.out HB5.out hgrow6 HB5.out.size; have HB6 := Lib.hid hb6; rw [← HL12.out] at hown6; obtain ⟨A6, c6, e6, q1, q2, q3⟩ := hown6.form; subst e6; have Q1 := Lib.hid q1; have Q2 := Lib.hid q2; have Q3 := Lib.hid q3; clear hown6 hgrow6 hb6 q1 q2 q3))
        have hb6 := HB6.out
        have nHB := Lib.hid (belG HB.out hb6 HB.out.size)
        have nR0 := Lib.hid ((R0.out.below hb6 (Nat.le_refl _)).more hb6.size)
        have nS0 := Lib.hid ((S0.out.below hb6 (Nat.le_refl _)).more hb6.size)
        have nR1 := Lib.hid ((R1.out.below hb6 (Nat.le_refl _)).more hb6.size)
        clear hb6 HB5 HO5 HB6
        clear HB R0 S0 R1
        have HB := nHB
        have R0 := nR0
        have S0 := nS0
        have R1 := nR1
        clear nHB nR0 nS0 nR1
        refine (CD1.out A6 c6 _ Q1.out Q2.out Q3.out).mono ?_
        rintro e w4 ⟨⟨A7, c7, rfl, -, -, h7⟩, hb⟩
        have nHB := Lib.hid (belG HB.out hb HB.out.size)
        have nR0 := Lib.hid ((R0.out.below hb (Nat.le_refl _)).more hb.size)
        have nS0 := Lib.hid ((S0.out.below hb (Nat.le_refl _)).more hb.size)
        have nR1 := Lib.hid ((R1.out.below hb (Nat.le_refl _)).more hb.size)
        clear hb
        clear HB R0 S0 R1
        have HB := nHB
        have R0 := nR0
        have S0 := nS0
        have R1 := nR1
        clear nHB nR0 nS0 nR1
        have R7 := Lib.hid h7
        clear h7
        go_wp2_with fail
        refine (SI.out A7 c7 _ R7.out R0.out).mono ?_
        rintro e w5 ⟨rfl, hb⟩
        have nHB := Lib.hid (belG HB.out hb HB.out.size)
        have nR0 := Lib.hid ((R0.out.below hb (Nat.le_refl _)).more hb.size)
        have nS0 := Lib.hid ((S0.out.below hb (Nat.le_refl _)).more hb.size)
        have nR1 := Lib.hid ((R1.out.below hb (Nat.le_refl _)).more hb.size)
        have nR7 := Lib.hid ((R7.out.below hb (Nat.le_refl _)).more hb.size)
        clear hb
        clear HB R0 S0 R1 R7
        have HB := nHB
        have R0 := nR0
        have S0 := nS0
        have R1 := nR1
        have R7 := nR7
        clear nHB nR0 nS0 nR1 nR7
        go_wp2_with fail
        refine (CD2.out _ S0.out).mono ?_
        rintro e w6 ⟨⟨A8, c8, rfl, -, -, -⟩, hb⟩
        have nHB := Lib.hid (belG HB.out hb HB.out.size)
        have nR0 := Lib.hid ((R0.out.below hb (Nat.le_refl _)).more hb.size)
        have nS0 := Lib.hid ((S0.out.below hb (Nat.le_refl _)).more hb.size)
        have nR1 := Lib.hid ((R1.out.below hb (Nat.le_refl _)).more hb.size)
        have nR7 := Lib.hid ((R7.out.below hb (Nat.le_refl _)).more hb.size)
        clear hb
        clear HB R0 S0 R1 R7
        have HB := nHB
        have R0 := nR0
        have S0 := nS0
        have R1 := nR1
        have R7 := nR7
        clear nHB nR0 nS0 nR1 nR7
        go_wp2_with fail
        go_ret
        exact ⟨by first | rfl | simp, HB.out⟩
    · have s16 : N1 = 16 := by have := HSZ.out; omega
      have s8 : ((N1 : Int) != 8) = true := by rw [s16]; rfl
      have s9 : ((N1 : Int) != 16) = false := by rw [s16]; rfl
      clear hs8 s16
      by_cases hx : X.2.2 = 0
      · obtain ⟨en, f1, f2, f3, f4, f5⟩ := hok hx
        have CW3 := Lib.hid (fun (A3 : Option Addr) (c3 : Nat) (w : World) (h : RdI w w.heap.size A3 X.1) => bWrite_any A3 X.1 c3 w (by omega) f1.i64 h)
        have CR3 := Lib.hid (fun (A3 : Option Addr) (c3 : Nat) (w : World) (h : RdI w w.heap.size A3 X.1) => bRight_any A3 X.1 c3 w (by omega) f1.i64 h)
        rw [show bmW X.1 = writeB X.1 by unfold bmW; rw [if_pos f1], show bmE X.1 = 0 by unfold bmE; rw [if_pos f1]] at CW3
        rw [decide_eq_true f1] at CR3
        have hcut : ∀ w, Rd w w.heap.size B u → Rd w w.heap.size (B.map (fun x => x.add j)) (writeB X.1) := by
          intro w h
          have h9 := h.cut j (en - j) d (by omega) HUD.out
          rw [if_neg (by have := HUD.out; omega), Nat.mul_one, ← f5] at h9
          exact h9
        have hl3 : (writeB X.1).length = en - j := by rw [f5, List.length_take, List.length_drop]; omega
        have HCUT := Lib.hid hcut
        have SM3 := Lib.hid (fun (A4 : Option Addr) (c4 : Nat) (w : World) (h1 : Rd w w.heap.size A4 (writeB X.1)) (h2 : Rd w w.heap.size (B.map (fun x => x.add j)) (writeB X.1)) => same_any A4 (B.map (fun x => x.add j)) (writeB X.1) (writeB X.1) c4 (d - j) _ _ w h1 h2)
        simp only [decide_true] at SM3
        rw [hl3] at SM3 CW3
        rw [f2, hx] at CD2
        have k1 : (j : Int) ≤ (en : Int) := by omega
        have k2 : (en : Int) ≤ (u.length : Int) := by omega
        have k3 : (en : Int) ≤ (d : Int) := by have := HUD.out; omega
        have k4 : (en : Int).toNat - j = en - j := by omega
        have k5 : ¬ d = j := by have := HUD.out; omega
        have k6 : (0 : Int) ≤ (j : Int) := Int.natCast_nonneg _
        have k7 : (j : Int) < (en : Int) := by omega
        clear hok hbad hxl f1 f2 f4 f5 hcut hl3 hx HUD
        generalize writeB X.1 = L3 at *
        generalize X.1 = Y at *
        generalize Y.length = N3 at *
        obtain ⟨m2, hm2⟩ : ∃ x, x = u.length := ⟨_, rfl⟩
        have HMU := Lib.hid hm2
        rw [← hm2] at i1 i4 i5 hjm CD2 HU5 ⊢
        rw [← hm2] at k2
        clear hm2
        generalize l.length = m at *
        have HB := Lib.hid (Below.refl W.heap.size W)
        go_enter Try.func5, Try.ntmps5
        go_wp2_with fail
        refine (shown6_any _).mono ?_
        rintro e w1 ⟨rfl, hb⟩
        have nHB := Lib.hid (belG HB.out hb HB.out.size)
        have nR0 := Lib.hid ((R0.out.below hb (Nat.le_refl _)).more hb.size)
        have nS0 := Lib.hid ((S0.out.below hb (Nat.le_refl _)).more hb.size)
        clear hb
        clear HB R0 S0
        have HB := nHB
        have R0 := nR0
        have S0 := nS0
        clear nHB nR0 nS0
        go_wp2_with fail
        refine (CW1.out _ R0.out).mono ?_
        rintro e w2 ⟨⟨A1, c1, rfl, -, -, h1⟩, hb⟩
        have nHB := Lib.hid (belG HB.out hb HB.out.size)
        have nR0 := Lib.hid ((R0.out.below hb (Nat.le_refl _)).more hb.size)
        have nS0 := Lib.hid ((S0.out.below hb (Nat.le_refl _)).more hb.size)
        clear hb
        clear HB R0 S0
        have HB := nHB
        have R0 := nR0
        have S0 := nS0
        clear nHB nR0 nS0
        have R1 := Lib.hid h1
        clear h1
        go_wp2_with fail
        refine (CR1.out _ R0.out).mono ?_
        rintro e w3 ⟨rfl, hb⟩
        have nHB := Lib.hid (belG HB.out hb HB.out.size)
        have nR0 := Lib.hid ((R0.out.below hb (Nat.le_refl _)).more hb.size)
        have nS0 := Lib.hid ((S0.out.below hb (Nat.le_refl _)).more hb.size)
        have nR1 := Lib.hid ((R1.out.below hb (Nat.le_refl _)).more hb.size)
        clear hb
        clear HB R0 S0 R1
        have HB := nHB
        have R0 := nR0
        have S0 := nS0
        have R1 := nR1
        clear nHB nR0 nS0 nR1
        go_wp2_with (first
          | (at_builtin; refine wpList_appS _ rfl (.tmp 42) (.tmp 43) rfl w3.heap.size _ [] L1 rfl (by exact Ow.made0 w3 (Nat.le_refl _)) _ _ _ _ rfl HN1.out (by exact R1.out.below ((Below.refl w3.heap.size w3).alloc (Nat.le_refl _) _) (Nat.le_refl _)) (by have := HW1.out; have := HN1.out; show 0 + List.length L1 ≤ 100000000; omega) (by exact le_alloc (Nat.le_refl _) _) ?_; intro v5 w5 hown5 hgrow5; have hb5 := Ow.below (w0 := w3) (by exact Ow.made0 w3 (Nat.le_refl _)) (by exact (Below.refl w3.heap.size w3).alloc (Nat.le_refl _) _) hgrow5 (by exact le_alloc (Nat.le_refl _) _); have HB5 := Lib.hid hb5; rw [List.nil_append] at hown5; have HO5 := Lib.hid hown5; clear hown5 hgrow5 hb5)
          | (at_builtin; refine wpList_appS _ rfl (.tmp 44) (.tmp 45) rfl w3.heap.size _ L1 u rfl HO5.out _ _ _ _ rfl HMU.out (by exact S0.out.below HB5.out (Nat.le_refl _)) (by have := HW1.out; have := HN1.out; have := HU5.out; have := HMU.out; omega) (by exact HB5.out.size) ?_; intro v6 w6' hown6 hgrow6; have hb6 := Ow.below HO5.out HB5.out hgrow6 HB5.out.size; have HB6 := Lib.hid hb6; rw [← HL12.out] at hown6; obtain ⟨A6, c6, e6, q1, q2, q3⟩ := hown6.form; subst e6; have Q1 := Lib.hid q1; have Q2 := Lib.hid q2; have Q3 := Lib.hid q3; clear hown6 hgrow6 hb6 q1 q2 q3))
        have hb6 := HB6.out
        have nHB := Lib.hid (belG HB.out hb6 HB.out.size)
        have nR0 := Lib.hid ((R0.out.below hb6 (Nat.le_refl _)).more hb6.size)
        have nS0 := Lib.hid ((S0.out.below hb6 (Nat.le_refl _)).more hb6.size)
        have nR1 := Lib.hid ((R1.out.below hb6 (Nat.le_refl _)).more hb6.size)
        clear hb6 HB5 HO5 HB6
        clear HB R0 S0 R1
        have HB := nHB
        have R0 := nR0
        have S0 := nS0
        have R1 := nR1
        clear nHB nR0 nS0 nR1
        refine (CD1.out A6 c6 _ Q1.out Q2.out Q3.out).mono ?_
        rintro e w4 ⟨⟨A7, c7, rfl, -, -, h7⟩, hb⟩
        have nHB := Lib.hid (belG HB.out hb HB.out.size)
        have nR0 := Lib.hid ((R0.out.below hb (Nat.le_refl _)).more hb.size)
        have nS0 := Lib.hid ((S0.out.below hb (Nat.le_refl _)).more hb.size)
        have nR1 := Lib.hid ((R1.out.below hb (Nat.le_refl _)).more hb.size)
        clear hb
        clear HB R0 S0 R1
        have HB := nHB
        have R0 := nR0
        have S0 := nS0
        have R1 := nR1
        clear nHB nR0 nS0 nR1
        have R7 := Lib.hid h7
        clear h7
        go_wp2_with fail
        refine (SI.out A7 c7 _ R7.out R0.out).mono ?_
        rintro e w5 ⟨rfl, hb⟩
        have nHB := Lib.hid (belG HB.out hb HB.out.size)
        have nR0 := Lib.hid ((R0.out.below hb (Nat.le_refl _)).more hb.size)
        have nS0 := Lib.hid ((S0.out.below hb (Nat.le_refl _)).more hb.size)
        have nR1 := Lib.hid ((R1.out.below hb (Nat.le_refl _)).more hb.size)
        have nR7 := Lib.hid ((R7.out.below hb (Nat.le_refl _)).more hb.size)
        clear hb
        clear HB R0 S0 R1 R7
        have HB := nHB
        have R0 := nR0
        have S0 := nS0
        have R1 := nR1
        have R7 := nR7
        clear nHB nR0 nS0 nR1 nR7
        go_wp2_with fail
        refine (CD2.out _ S0.out).mono ?_
        rintro e w6 ⟨⟨A8, c8, rfl, -, -, h8⟩, hb⟩
        have nHB := Lib.hid (belG HB.out hb HB.out.size)
        have nR0 := Lib.hid ((R0.out.below hb (Nat.le_refl _)).more hb.size)
        have nS0 := Lib.hid ((S0.out.below hb (Nat.le_refl _)).more hb.size)
        have nR1 := Lib.hid ((R1.out.below hb (Nat.le_refl _)).more hb.size)
        have nR7 := Lib.hid ((R7.out.below hb (Nat.le_refl _)).more hb.size)
        clear hb
        clear HB R0 S0 R1 R7
        have HB := nHB
        have R0 := nR0
        have S0 := nS0
        have R1 := nR1
        have R7 := nR7
        clear nHB nR0 nS0 nR1 nR7
        have R8 := Lib.hid h8
        clear h8
        go_wp2_with fail
        refine (CW3.out A8 c8 _ R8.out).mono ?_
        rintro e w7 ⟨⟨A9, c9, rfl, -, -, h9⟩, hb⟩
        have nHB := Lib.hid (belG HB.out hb HB.out.size)
        have nR0 := Lib.hid ((R0.out.below hb (Nat.le_refl _)).more hb.size)
        have nS0 := Lib.hid ((S0.out.below hb (Nat.le_refl _)).more hb.size)
        have nR1 := Lib.hid ((R1.out.below hb (Nat.le_refl _)).more hb.size)
        have nR7 := Lib.hid ((R7.out.below hb (Nat.le_refl _)).more hb.size)
        have nR8 := Lib.hid ((R8.out.below hb (Nat.le_refl _)).more hb.size)
        clear hb
        clear HB R0 S0 R1 R7 R8
        have HB := nHB
        have R0 := nR0
        have S0 := nS0
        have R1 := nR1
        have R7 := nR7
        have R8 := nR8
        clear nHB nR0 nS0 nR1 nR7 nR8
        have R9 := Lib.hid h9
        clear h9
        go_wp2_with fail
        refine (CR3.out A8 c8 _ R8.out).mono ?_
        rintro e w8 ⟨rfl, hb⟩
        have nHB := Lib.hid (belG HB.out hb HB.out.size)
        have nR0 := Lib.hid ((R0.out.below hb (Nat.le_refl _)).more hb.size)
        have nS0 := Lib.hid ((S0.out.below hb (Nat.le_refl _)).more hb.size)
        have nR1 := Lib.hid ((R1.out.below hb (Nat.le_refl _)).more hb.size)
        have nR7 := Lib.hid ((R7.out.below hb (Nat.le_refl _)).more hb.size)
        have nR8 := Lib.hid ((R8.out.below hb (Nat.le_refl _)).more hb.size)
        have nR9 := Lib.hid ((R9.out.below hb (Nat.le_refl _)).more hb.size)
        clear hb
        clear HB R0 S0 R1 R7 R8 R9
        have HB := nHB
        have R0 := nR0
        have S0 := nS0
        have R1 := nR1
        have R7 := nR7
        have R8 := nR8
        have R9 := nR9
        clear nHB nR0 nS0 nR1 nR7 nR8 nR9
        go_wp2_with fail
        refine (SM3.out A9 c9 _ R9.out (HCUT.out _ S0.out)).mono ?_
        rintro e w9 ⟨rfl, rfl⟩
        go_wp2_with fail
        go_ret
        exact ⟨by first | rfl | simp, HB.out⟩
      · obtain ⟨b1, b2⟩ := hbad hx
        have hxb : (X.2.2 != 0) = true := by simpa using hx
        rw [b1, b2] at CD2
        clear hok hbad hxl b1 b2 hx HUD
        generalize X.2.2 = X3 at *
        obtain ⟨m2, hm2⟩ : ∃ x, x = u.length := ⟨_, rfl⟩
        have HMU := Lib.hid hm2
        rw [← hm2] at i1 i4 i5 hjm CD2 HU5 ⊢
        clear hm2
        generalize l.length = m at *
        have HB := Lib.hid (Below.refl W.heap.size W)
        go_enter Try.func5, Try.ntmps5
        go_wp2_with fail
        refine (shown6_any _).mono ?_
        rintro e w1 ⟨rfl, hb⟩
        have nHB := Lib.hid (belG HB.out hb HB.out.size)
        have nR0 := Lib.hid ((R0.out.below hb (Nat.le_refl _)).more hb.size)
        have nS0 := Lib.hid ((S0.out.below hb (Nat.le_refl _)).more hb.size)
        clear hb
        clear HB R0 S0
        have HB := nHB
        have R0 := nR0
        have S0 := nS0
        clear nHB nR0 nS0
        go_wp2_with fail
        refine (CW1.out _ R0.out).mono ?_
        rintro e w2 ⟨⟨A1, c1, rfl, -, -, h1⟩, hb⟩
        have nHB := Lib.hid (belG HB.out hb HB.out.size)
        have nR0 := Lib.hid ((R0.out.below hb (Nat.le_refl _)).more hb.size)
        have nS0 := Lib.hid ((S0.out.below hb (Nat.le_refl _)).more hb.size)
        clear hb
        clear HB R0 S0
        have HB := nHB
        have R0 := nR0
        have S0 := nS0
        clear nHB nR0 nS0
        have R1 := Lib.hid h1
        clear h1
        go_wp2_with fail
        refine (CR1.out _ R0.out).mono ?_
        rintro e w3 ⟨rfl, hb⟩
        have nHB := Lib.hid (belG HB.out hb HB.out.size)
        have nR0 := Lib.hid ((R0.out.below hb (Nat.le_refl _)).more hb.size)
        have nS0 := Lib.hid ((S0.out.below hb (Nat.le_refl _)).more hb.size)
        have nR1 := Lib.hid ((R1.out.below hb (Nat.le_refl _)).more hb.size)
        clear hb
        clear HB R0 S0 R1
        have HB := nHB
        have R0 := nR0
        have S0 := nS0
        have R1 := nR1
        clear nHB nR0 nS0 nR1
        go_wp2_with (first
          | (at_builtin; refine wpList_appS _ rfl (.tmp 42) (.tmp 43) rfl w3.heap.size _ [] L1 rfl (by exact Ow.made0 w3 (Nat.le_refl _)) _ _ _ _ rfl HN1.out (by exact R1.out.below ((Below.refl w3.heap.size w3).alloc (Nat.le_refl _) _) (Nat.le_refl _)) (by have := HW1.out; have := HN1.out; show 0 + List.length L1 ≤ 100000000; omega) (by exact le_alloc (Nat.le_refl _) _) ?_; intro v5 w5 hown5 hgrow5; have hb5 := Ow.below (w0 := w3) (by exact Ow.made0 w3 (Nat.le_refl _)) (by exact (Below.refl w3.heap.size w3).alloc (Nat.le_refl _) _) hgrow5 (by exact le_alloc (Nat.le_refl _) _); have HB5 := Lib.hid hb5; rw [List.nil_append] at hown5; have HO5 := Lib.hid hown5; clear hown5 hgrow5 hb5)
          | (at_builtin; refine wpList_appS _ rfl (.tmp 44) (.tmp 45) rfl w3.heap.size _ L1 u rfl HO5.out _ _ _ _ rfl HMU.out (by exact S0.out.below HB5.out (Nat.le_refl _)) (by have := HW1.out; have := HN1.out; have := HU5.out; have := HMU.out; omega) (by exact HB5.out.size) ?_; intro v6 w6' hown6 hgrow6; have hb6 := Ow.below HO5.out HB5.out hgrow6 HB5.out.size; have HB6 := Lib.hid hb6; rw [← HL12.out] at hown6; obtain ⟨A6, c6, e6, q1, q2, q3⟩ := hown6.form; subst e6; have Q1 := Lib.hid q1; have Q2 := Lib.hid q2; have Q3 := Lib.hid q3; clear hown6 hgrow6 hb6 q1 q2 q3))
        have hb6 := HB6.out
        have nHB := Lib.hid (belG HB.out hb6 HB.out.size)
        have nR0 := Lib.hid ((R0.out.below hb6 (Nat.le_refl _)).more hb6.size)
        have nS0 := Lib.hid ((S0.out.below hb6 (Nat.le_refl _)).more hb6.size)
        have nR1 := Lib.hid ((R1.out.below hb6 (Nat.le_refl _)).more hb6.size)
        clear hb6 HB5 HO5 HB6
        clear HB R0 S0 R1
        have HB := nHB
        have R0 := nR0
        have S0 := nS0
        have R1 := nR1
        clear nHB nR0 nS0 nR1
        refine (CD1.out A6 c6 _ Q1.out Q2.out Q3.out).mono ?_
        rintro e w4 ⟨⟨A7, c7, rfl, -, -, h7⟩, hb⟩
        have nHB := Lib.hid (belG HB.out hb HB.out.size)
        have nR0 := Lib.hid ((R0.out.below hb (Nat.le_refl _)).more hb.size)
        have nS0 := Lib.hid ((S0.out.below hb (Nat.le_refl _)).more hb.size)
        have nR1 := Lib.hid ((R1.out.below hb (Nat.le_refl _)).more hb.size)
        clear hb
        clear HB R0 S0 R1
        have HB := nHB
        have R0 := nR0
        have S0 := nS0
        have R1 := nR1
        clear nHB nR0 nS0 nR1
        have R7 := Lib.hid h7
        clear h7
        go_wp2_with fail
        refine (SI.out A7 c7 _ R7.out R0.out).mono ?_
        rintro e w5 ⟨rfl, hb⟩
        have nHB := Lib.hid (belG HB.out hb HB.out.size)
        have nR0 := Lib.hid ((R0.out.below hb (Nat.le_refl _)).more hb.size)
        have nS0 := Lib.hid ((S0.out.below hb (Nat.le_refl _)).more hb.size)
        have nR1 := Lib.hid ((R1.out.below hb (Nat.le_refl _)).more hb.size)
        have nR7 := Lib.hid ((R7.out.below hb (Nat.le_refl _)).more hb.size)
        clear hb
        clear HB R0 S0 R1 R7
        have HB := nHB
        have R0 := nR0
        have S0 := nS0
        have R1 := nR1
        have R7 := nR7
        clear nHB nR0 nS0 nR1 nR7
        go_wp2_with fail
        refine (CD2.out _ S0.out).mono ?_
        rintro e w6 ⟨⟨A8, c8, rfl, -, -, -⟩, hb⟩
        have nHB := Lib.hid (belG HB.out hb HB.out.size)
        have nR0 := Lib.hid ((R0.out.below hb (Nat.le_refl _)).more hb.size)
        have nS0 := Lib.hid ((S0.out.below hb (Nat.le_refl _)).more hb.size)
        have nR1 := Lib.hid ((R1.out.below hb (Nat.le_refl _)).more hb.size)
        have nR7 := Lib.hid ((R7.out.below hb (Nat.le_refl _)).more hb.size)
        clear hb
        clear HB R0 S0 R1 R7
        have HB := nHB
        have R0 := nR0
        have S0 := nS0
        have R1 := nR1
        have R7 := nR7
        clear nHB nR0 nS0 nR1 nR7
        go_wp2_with fail
        go_ret
        exact ⟨by first | rfl | simp, HB.out⟩
  · rw [show bmW l = [] by unfold bmW; rw [if_neg hR], show bmE l = 1 by unfold bmE; rw [if_neg hR]] at CW1
    rw [decide_eq_false hR] at CR1
    clear h150 h100 hd hdm hR HU5 HL5
    by_cases hx : X.2.2 = 0
    · obtain ⟨en, f1, f2, f3, f4, f5⟩ := hok hx
      have CW3 := Lib.hid (fun (A3 : Option Addr) (c3 : Nat) (w : World) (h : RdI w w.heap.size A3 X.1) => bWrite_any A3 X.1 c3 w (by omega) f1.i64 h)
      have CR3 := Lib.hid (fun (A3 : Option Addr) (c3 : Nat) (w : World) (h : RdI w w.heap.size A3 X.1) => bRight_any A3 X.1 c3 w (by omega) f1.i64 h)
      rw [show bmW X.1 = writeB X.1 by unfold bmW; rw [if_pos f1], show bmE X.1 = 0 by unfold bmE; rw [if_pos f1]] at CW3
      rw [decide_eq_true f1] at CR3
      have hcut : ∀ w, Rd w w.heap.size B u → Rd w w.heap.size (B.map (fun x => x.add j)) (writeB X.1) := by
        intro w h
        have h9 := h.cut j (en - j) d (by omega) HUD.out
        rw [if_neg (by have := HUD.out; omega), Nat.mul_one, ← f5] at h9
        exact h9
      have hl3 : (writeB X.1).length = en - j := by rw [f5, List.length_take, List.length_drop]; omega
      have HCUT := Lib.hid hcut
      have SM3 := Lib.hid (fun (A4 : Option Addr) (c4 : Nat) (w : World) (h1 : Rd w w.heap.size A4 (writeB X.1)) (h2 : Rd w w.heap.size (B.map (fun x => x.add j)) (writeB X.1)) => same_any A4 (B.map (fun x => x.add j)) (writeB X.1) (writeB X.1) c4 (d - j) _ _ w h1 h2)
      simp only [decide_true] at SM3
      rw [hl3] at SM3 CW3
      rw [f2, hx] at CD2
      have k1 : (j : Int) ≤ (en : Int) := by omega
      have k2 : (en : Int) ≤ (u.length : Int) := by omega
      have k3 : (en : Int) ≤ (d : Int) := by have := HUD.out; omega
      have k4 : (en : Int).toNat - j = en - j := by omega
      have k5 : ¬ d = j := by have := HUD.out; omega
      have k6 : (0 : Int) ≤ (j : Int) := Int.natCast_nonneg _
      have k7 : (j : Int) < (en : Int) := by omega
      clear hok hbad hxl f1 f2 f4 f5 hcut hl3 hx HUD
      generalize writeB X.1 = L3 at *
      generalize X.1 = Y at *
      generalize Y.length = N3 at *
      generalize l.length = m at *
      generalize u.length = m2 at *
      have HB := Lib.hid (Below.refl W.heap.size W)
      go_enter Try.func5, Try.ntmps5
      go_wp2_with fail
      refine (shown6_any _).mono ?_
      rintro e w1 ⟨rfl, hb⟩
      have nHB := Lib.hid (belG HB.out hb HB.out.size)
      have nR0 := Lib.hid ((R0.out.below hb (Nat.le_refl _)).more hb.size)
      have nS0 := Lib.hid ((S0.out.below hb (Nat.le_refl _)).more hb.size)
      clear hb
      clear HB R0 S0
      have HB := nHB
      have R0 := nR0
      have S0 := nS0
      clear nHB nR0 nS0
      go_wp2_with fail
      refine (CW1.out _ R0.out).mono ?_
      rintro e w2 ⟨⟨A1, c1, rfl, -, -, -⟩, hb⟩
      have nHB := Lib.hid (belG HB.out hb HB.out.size)
      have nR0 := Lib.hid ((R0.out.below hb (Nat.le_refl _)).more hb.size)
      have nS0 := Lib.hid ((S0.out.below hb (Nat.le_refl _)).more hb.size)
      clear hb
      clear HB R0 S0
      have HB := nHB
      have R0 := nR0
      have S0 := nS0
      clear nHB nR0 nS0
      go_wp2_with fail
      refine (CR1.out _ R0.out).mono ?_
      rintro e w3 ⟨rfl, hb⟩
      have nHB := Lib.hid (belG HB.out hb HB.out.size)
      have nR0 := Lib.hid ((R0.out.below hb (Nat.le_refl _)).more hb.size)
      have nS0 := Lib.hid ((S0.out.below hb (Nat.le_refl _)).more hb.size)
      clear hb
      clear HB R0 S0
      have HB := nHB
      have R0 := nR0
      have S0 := nS0
      clear nHB nR0 nS0
      go_wp2_with fail
      refine (CD2.out _ S0.out).mono ?_
      rintro e w4 ⟨⟨A8, c8, rfl, -, -, h8⟩, hb⟩
      have nHB := Lib.hid (belG HB.out hb HB.out.size)
      have nR0 := Lib.hid ((R0.out.below hb (Nat.le_refl _)).more hb.size)
      have nS0 := Lib.hid ((S0.out.below hb (Nat.le_refl _)).more hb.size)
      clear hb
      clear HB R0 S0
      have HB := nHB
      have R0 := nR0
      have S0 := nS0
      clear nHB nR0 nS0
      have R8 := Lib.hid h8
      clear h8
      go_wp2_with fail
      refine (CW3.out A8 c8 _ R8.out).mono ?_
      rintro e w5 ⟨⟨A9, c9, rfl, -, -, h9⟩, hb⟩
      have nHB := Lib.hid (belG HB.out hb HB.out.size)
      have nR0 := Lib.hid ((R0.out.below hb (Nat.le_refl _)).more hb.size)
      have nS0 := Lib.hid ((S0.out.below hb (Nat.le_refl _)).more hb.size)
      have nR8 := Lib.hid ((R8.out.below hb (Nat.le_refl _)).more hb.size)
      clear hb
      clear HB R0 S0 R8
      have HB := nHB
      have R0 := nR0
      have S0 := nS0
      have R8 := nR8
      clear nHB nR0 nS0 nR8
      have R9 := Lib.hid h9
      clear h9
      go_wp2_with fail
      refine (CR3.out A8 c8 _ R8.out).mono ?_
      rintro e w6 ⟨rfl, hb⟩
      have nHB := Lib.hid (belG HB.out hb HB.out.size)
      have nR0 := Lib.hid ((R0.out.below hb (Nat.le_refl _)).more hb.size)
      have nS0 := Lib.hid ((S0.out.below hb (Nat.le_refl _)).more hb.size)
      have nR8 := Lib.hid ((R8.out.below hb (Nat.le_refl _)).more hb.size)
      have nR9 := Lib.hid ((R9.out.below hb (Nat.le_refl _)).more hb.size)
      clear hb
      clear HB R0 S0 R8 R9
      have HB := nHB
      have R0 := nR0
      have S0 := nS0
      have R8 := nR8
      have R9 := nR9
      clear nHB nR0 nS0 nR8 nR9
      go_wp2_with fail
      refine (SM3.out A9 c9 _ R9.out (HCUT.out _ S0.out)).mono ?_
      rintro e w7 ⟨rfl, rfl⟩
      go_wp2_with fail
      go_ret
      exact ⟨by first | rfl | simp, HB.out⟩
    · obtain ⟨b1, b2⟩ := hbad hx
      have hxb : (X.2.2 != 0) = true := by simpa using hx
      rw [b1, b2] at CD2
      clear hok hbad hxl b1 b2 hx HUD
      generalize X.2.2 = X3 at *
      generalize l.length = m at *
      generalize u.length = m2 at *
      have HB := Lib.hid (Below.refl W.heap.size W)
      go_enter Try.func5, Try.ntmps5
      go_wp2_with fail
      refine (shown6_any _).mono ?_
      rintro e w1 ⟨rfl, hb⟩
      have nHB := Lib.hid (belG HB.out hb HB.out.size)
      have nR0 := Lib.hid ((R0.out.below hb (Nat.le_refl _)).more hb.size)
      have nS0 := Lib.hid ((S0.out.below hb (Nat.le_refl _)).more hb.size)
      clear hb
      clear HB R0 S0
      have HB := nHB
      have R0 := nR0
      have S0 := nS0
      clear nHB nR0 nS0
      go_wp2_with fail
      refine (CW1.out _ R0.out).mono ?_
      rintro e w2 ⟨⟨A1, c1, rfl, -, -, -⟩, hb⟩
      have nHB := Lib.hid (belG HB.out hb HB.out.size)
      have nR0 := Lib.hid ((R0.out.below hb (Nat.le_refl _)).more hb.size)
      have nS0 := Lib.hid ((S0.out.below hb (Nat.le_refl _)).more hb.size)
      clear hb
      clear HB R0 S0
      have HB := nHB
      have R0 := nR0
      have S0 := nS0
      clear nHB nR0 nS0
      go_wp2_with fail
      refine (CR1.out _ R0.out).mono ?_
      rintro e w3 ⟨rfl, hb⟩
      have nHB := Lib.hid (belG HB.out hb HB.out.size)
      have nR0 := Lib.hid ((R0.out.below hb (Nat.le_refl _)).more hb.size)
      have nS0 := Lib.hid ((S0.out.below hb (Nat.le_refl _)).more hb.size)
      clear hb
      clear HB R0 S0
      have HB := nHB
      have R0 := nR0
      have S0 := nS0
      clear nHB nR0 nS0
      go_wp2_with fail
      refine (CD2.out _ S0.out).mono ?_
      rintro e w4 ⟨⟨A8, c8, rfl, -, -, -⟩, hb⟩
      have nHB := Lib.hid (belG HB.out hb HB.out.size)
      have nR0 := Lib.hid ((R0.out.below hb (Nat.le_refl _)).more hb.size)
      have nS0 := Lib.hid ((S0.out.below hb (Nat.le_refl _)).more hb.size)
      clear hb
      clear HB R0 S0
      have HB := nHB
      have R0 := nR0
      have S0 := nS0
      clear nHB nR0 nS0
      go_wp2_with fail
      go_ret
      exact ⟨by first | rfl | simp, HB.out⟩
end Go.Proofs.Ytgojmhfiikjpnaa
