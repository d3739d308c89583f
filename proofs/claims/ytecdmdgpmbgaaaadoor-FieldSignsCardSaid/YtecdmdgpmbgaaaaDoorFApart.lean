
/- FieldApart's walk. -/
import Derived.Test.YtecdmdgpmbgaaaaDoorFldS
namespace Go.Proofs.YtecdmdgpmbgaaaaDoor
open Go.RowKit

theorem u16_bd5 {a : Int} (h : (Lit.int .u16 a).wf = true) : 0 ≤ a ∧ a ≤ 65535 := by
  simpa [Lit.wf, IntKind.min, IntKind.max, IntKind.signed, IntKind.bits] using h
theorem rd_take5 {w : World} {B : Nat} {A : Option Addr} {l : List UInt8} (h : Rd w B A l) (n : Nat) : Rd w B A (l.take n) := by
  intro h0
  rw [List.length_take] at h0
  obtain ⟨b, o, e, hb, hc⟩ := h (by omega)
  refine ⟨b, o, e, hb, fun j hj => ?_⟩
  rw [hc j (by rw [List.length_take] at hj; omega), List.getElem_take]
theorem writeE_no {no : Int} {v : List UInt8} (h : fitsF no v = false) : (writeE no v != 0) = true ∧ (writeE no v == 0) = false := by
  have hE : writeE no v = 12 ∨ writeE no v = 1 := by unfold writeE; rw [h]; by_cases h : fk no = 0 <;> simp [h]
  rcases hE with h | h <;> rw [h] <;> exact ⟨rfl, rfl⟩
theorem writeE_yes {no : Int} {v : List UInt8} (h : fitsF no v = true) : writeE no v = 0 := by
  obtain ⟨z1, z2, z3, z4, z5⟩ := fits_some h
  unfold writeE; rw [if_neg z1, if_pos h]
theorem write_le {no : Int} {v : List UInt8} (hl : v.length ≤ 1000) : (writeL no v).length ≤ 1002 := by
  cases h : fitsF no v with
  | false => unfold writeL; rw [h]; simp
  | true =>
    rw [write_len h]
    have := cnt_le (fk no)
    unfold sizeF
    split <;> omega
set_option maxRecDepth 100000 in
set_option maxHeartbeats 4000000 in
theorem fieldApart_walk (no : Int) (A : Option Addr) (v : List UInt8) (c : Nat) (B : Option Addr) (u : List UInt8) (d : Nat) (W : World) (_ : -9223372036854775808 ≤ no ∧ no ≤ 9223372036854775807) (hc : v.length ≤ c) (hcm : c ≤ 9223372036854775807) (hr : Rd W W.heap.size A v) (hd : u.length ≤ d) (hdm : d ≤ 9223372036854775807) (hs : Rd W W.heap.size B u) (hT : Tb W) :
    Calls Tryd.prog 6 #[.int .i64 no, .slice A v.length c, .slice B u.length d] W fun e W' => e = .returned (.bool true) ∧ Below W.heap.size W W' := by
  have HT := Lib.hid hT
  clear hT
  by_cases h500 : 500 < v.length
  · have i0 : (500 : Int) < (v.length : Int) := by omega
    generalize v.length = m at *
    generalize u.length = m2 at *
    have HB := Lib.hid (Below.refl W.heap.size W)
    go_enter Tryd.func6, Tryd.ntmps6
    go_wp2_with fail
    refine (shown5_any _ (HT.out.below HB.out)).mono ?_
    rintro e w1 ⟨rfl, hb⟩
    have nHB := Lib.hid (bel5 HB.out hb HB.out.size)
    clear hb
    clear HB 
    have HB := nHB
    clear nHB 
    go_wp2_with fail
    go_ret
    exact ⟨rfl, HB.out⟩
  by_cases h501 : 500 < u.length
  · have i0 : ¬ (500 : Int) < (v.length : Int) := by omega
    have i1 : (500 : Int) < (u.length : Int) := by omega
    generalize v.length = m at *
    generalize u.length = m2 at *
    have HB := Lib.hid (Below.refl W.heap.size W)
    go_enter Tryd.func6, Tryd.ntmps6
    go_wp2_with fail
    refine (shown5_any _ (HT.out.below HB.out)).mono ?_
    rintro e w1 ⟨rfl, hb⟩
    have nHB := Lib.hid (bel5 HB.out hb HB.out.size)
    clear hb
    clear HB 
    have HB := nHB
    clear nHB 
    go_wp2_with fail
    go_ret
    exact ⟨rfl, HB.out⟩
  have i0 : ¬ (500 : Int) < (v.length : Int) := by omega
  have i1 : ¬ (500 : Int) < (u.length : Int) := by omega
  have CW1 := Lib.hid (fun w (h : Rd w w.heap.size A v) (ht : Tb w) => fWrite_any no A v c w (by omega) hc hcm h ht)
  have CW2 := Lib.hid (fun w (h : Rd w w.heap.size B u) (ht : Tb w) => fWrite_any no B u d w (by omega) hd hdm h ht)
  have R0 := Lib.hid hr
  have S0 := Lib.hid hs
  have hw1 : (writeL no v).length ≤ 1002 := write_le (by omega)
  have hw2 : (writeL no u).length ≤ 1002 := write_le (by omega)
  cases hf1 : fitsF no v with
  | false =>
    obtain ⟨e1, e2⟩ := writeE_no hf1
    clear h500 h501 hc hcm hr hd hdm hs hf1 e2
    generalize writeE no v = E1 at *
    generalize writeE no u = E2 at *
    generalize writeL no v = L1 at *
    generalize writeL no u = L2 at *
    generalize v.length = m at *
    generalize u.length = m2 at *
    generalize L1.length = N1 at *
    generalize L2.length = N2 at *
    have HB := Lib.hid (Below.refl W.heap.size W)
    go_enter Tryd.func6, Tryd.ntmps6
    go_wp2_with fail
    refine (shown5_any _ (HT.out.below HB.out)).mono ?_
    rintro e w1 ⟨rfl, hb⟩
    have nHB := Lib.hid (bel5 HB.out hb HB.out.size)
    have nR0 := Lib.hid ((R0.out.below hb (Nat.le_refl _)).more hb.size)
    have nS0 := Lib.hid ((S0.out.below hb (Nat.le_refl _)).more hb.size)
    clear hb
    clear HB R0 S0
    have HB := nHB
    have R0 := nR0
    have S0 := nS0
    clear nHB nR0 nS0
    go_wp2_with fail
    refine (CW1.out _ R0.out (HT.out.below HB.out)).mono ?_
    rintro e w2 ⟨⟨A1, c1, rfl, h1a, h1b, h1⟩, hb⟩
    have nHB := Lib.hid (bel5 HB.out hb HB.out.size)
    have nR0 := Lib.hid ((R0.out.below hb (Nat.le_refl _)).more hb.size)
    have nS0 := Lib.hid ((S0.out.below hb (Nat.le_refl _)).more hb.size)
    clear hb
    clear HB R0 S0
    have HB := nHB
    have R0 := nR0
    have S0 := nS0
    clear nHB nR0 nS0
    have R1 := Lib.hid h1
    clear h1
    go_wp2_with fail
    refine (CW2.out _ S0.out (HT.out.below HB.out)).mono ?_
    rintro e w3 ⟨⟨A2, c2, rfl, h2a, h2b, h2⟩, hb⟩
    have nHB := Lib.hid (bel5 HB.out hb HB.out.size)
    have nR0 := Lib.hid ((R0.out.below hb (Nat.le_refl _)).more hb.size)
    have nS0 := Lib.hid ((S0.out.below hb (Nat.le_refl _)).more hb.size)
    have nR1 := Lib.hid ((R1.out.below hb (Nat.le_refl _)).more hb.size)
    clear hb
    clear HB R0 S0 R1
    have HB := nHB
    have R0 := nR0
    have S0 := nS0
    have R1 := nR1
    clear nHB nR0 nS0 nR1
    have R2 := Lib.hid h2
    clear h2
    go_wp2_with fail
    go_ret
    exact ⟨rfl, HB.out⟩
  | true =>
    have e1 := writeE_yes hf1
    cases hf2 : fitsF no u with
    | false =>
      obtain ⟨e2, e3⟩ := writeE_no hf2
      rw [e1] at CW1
      clear h500 h501 hc hcm hr hd hdm hs hf1 hf2 e1 e3
      generalize writeE no u = E2 at *
      generalize writeL no v = L1 at *
      generalize writeL no u = L2 at *
      generalize v.length = m at *
      generalize u.length = m2 at *
      generalize L1.length = N1 at *
      generalize L2.length = N2 at *
      have HB := Lib.hid (Below.refl W.heap.size W)
      go_enter Tryd.func6, Tryd.ntmps6
      go_wp2_with fail
      refine (shown5_any _ (HT.out.below HB.out)).mono ?_
      rintro e w1 ⟨rfl, hb⟩
      have nHB := Lib.hid (bel5 HB.out hb HB.out.size)
      have nR0 := Lib.hid ((R0.out.below hb (Nat.le_refl _)).more hb.size)
      have nS0 := Lib.hid ((S0.out.below hb (Nat.le_refl _)).more hb.size)
      clear hb
      clear HB R0 S0
      have HB := nHB
      have R0 := nR0
      have S0 := nS0
      clear nHB nR0 nS0
      go_wp2_with fail
      refine (CW1.out _ R0.out (HT.out.below HB.out)).mono ?_
      rintro e w2 ⟨⟨A1, c1, rfl, h1a, h1b, h1⟩, hb⟩
      have nHB := Lib.hid (bel5 HB.out hb HB.out.size)
      have nR0 := Lib.hid ((R0.out.below hb (Nat.le_refl _)).more hb.size)
      have nS0 := Lib.hid ((S0.out.below hb (Nat.le_refl _)).more hb.size)
      clear hb
      clear HB R0 S0
      have HB := nHB
      have R0 := nR0
      have S0 := nS0
      clear nHB nR0 nS0
      have R1 := Lib.hid h1
      clear h1
      go_wp2_with fail
      refine (CW2.out _ S0.out (HT.out.below HB.out)).mono ?_
      rintro e w3 ⟨⟨A2, c2, rfl, h2a, h2b, h2⟩, hb⟩
      have nHB := Lib.hid (bel5 HB.out hb HB.out.size)
      have nR0 := Lib.hid ((R0.out.below hb (Nat.le_refl _)).more hb.size)
      have nS0 := Lib.hid ((S0.out.below hb (Nat.le_refl _)).more hb.size)
      have nR1 := Lib.hid ((R1.out.below hb (Nat.le_refl _)).more hb.size)
      clear hb
      clear HB R0 S0 R1
      have HB := nHB
      have R0 := nR0
      have S0 := nS0
      have R1 := nR1
      clear nHB nR0 nS0 nR1
      have R2 := Lib.hid h2
      clear h2
      go_wp2_with fail
      go_ret
      exact ⟨rfl, HB.out⟩
    | true =>
      have e2 := writeE_yes hf2
      rw [e1] at CW1
      rw [e2] at CW2
      have hap := fun n hn => apart hf1 hf2 n hn
      have SV := Lib.hid (fun (B1 B2 : Nat) (w : World) (h1 : Rd w B1 A v) (h2 : Rd w B2 B u) => same_any A B v u c d B1 B2 w h1 h2)
      generalize hL1 : writeL no v = L1 at *
      generalize hL2 : writeL no u = L2 at *
      obtain ⟨n, hn⟩ : ∃ n, n = min L1.length L2.length := ⟨_, rfl⟩
      have SX := Lib.hid (fun (A1 A2 : Option Addr) (c1 c2 B1 B2 : Nat) (w : World) (h1 : Rd w B1 A1 (L1.take n)) (h2 : Rd w B2 A2 (L2.take n)) => (show Calls Tryd.prog 17 #[.slice A1 n c1, .slice A2 n c2] w fun e w' => e = .returned (.bool (decide (v = u))) ∧ w = w' from by
        have h := same_any A1 A2 (L1.take n) (L2.take n) c1 c2 _ _ w h1 h2
        rw [show (L1.take n).length = n by rw [List.length_take]; omega, show (L2.take n).length = n by rw [List.length_take]; omega] at h
        have e : decide (L1.take n = L2.take n) = decide (v = u) := by simp only [hap n hn]
        rw [e] at h
        exact h))
      have hn1 : n ≤ L1.length ∧ n ≤ L2.length := by omega
      obtain ⟨hn1, hn2⟩ := hn1
      have hmin : n = L1.length ∧ L1.length ≤ L2.length ∨ n = L2.length ∧ ¬ L1.length ≤ L2.length := by omega
      clear h500 h501 hc hcm hr hd hdm hs hf1 hf2 e1 e2 hap hL1 hL2 hn
      generalize decide (v = u) = D at *
      generalize v.length = m at *
      generalize u.length = m2 at *
      generalize L1.length = N1 at *
      generalize L2.length = N2 at *
      rcases hmin with ⟨rfl, hle⟩ | ⟨rfl, hle⟩
      · have i2 : (n : Int) ≤ (N2 : Int) := by omega
        have i3 : min (n : Int) (N2 : Int) = (n : Int) := by omega
        clear hle
        have HB := Lib.hid (Below.refl W.heap.size W)
        go_enter Tryd.func6, Tryd.ntmps6
        go_wp2_with fail
        refine (shown5_any _ (HT.out.below HB.out)).mono ?_
        rintro e w1 ⟨rfl, hb⟩
        have nHB := Lib.hid (bel5 HB.out hb HB.out.size)
        have nR0 := Lib.hid ((R0.out.below hb (Nat.le_refl _)).more hb.size)
        have nS0 := Lib.hid ((S0.out.below hb (Nat.le_refl _)).more hb.size)
        clear hb
        clear HB R0 S0
        have HB := nHB
        have R0 := nR0
        have S0 := nS0
        clear nHB nR0 nS0
        go_wp2_with fail
        refine (CW1.out _ R0.out (HT.out.below HB.out)).mono ?_
        rintro e w2 ⟨⟨A1, c1, rfl, h1a, h1b, h1⟩, hb⟩
        have nHB := Lib.hid (bel5 HB.out hb HB.out.size)
        have nR0 := Lib.hid ((R0.out.below hb (Nat.le_refl _)).more hb.size)
        have nS0 := Lib.hid ((S0.out.below hb (Nat.le_refl _)).more hb.size)
        clear hb
        clear HB R0 S0
        have HB := nHB
        have R0 := nR0
        have S0 := nS0
        clear nHB nR0 nS0
        have R1 := Lib.hid h1
        clear h1
        go_wp2_with fail
        refine (CW2.out _ S0.out (HT.out.below HB.out)).mono ?_
        rintro e w3 ⟨⟨A2, c2, rfl, h2a, h2b, h2⟩, hb⟩
        have nHB := Lib.hid (bel5 HB.out hb HB.out.size)
        have nR0 := Lib.hid ((R0.out.below hb (Nat.le_refl _)).more hb.size)
        have nS0 := Lib.hid ((S0.out.below hb (Nat.le_refl _)).more hb.size)
        have nR1 := Lib.hid ((R1.out.below hb (Nat.le_refl _)).more hb.size)
        clear hb
        clear HB R0 S0 R1
        have HB := nHB
        have R0 := nR0
        have S0 := nS0
        have R1 := nR1
        clear nHB nR0 nS0 nR1
        have R2 := Lib.hid h2
        clear h2
        have j1 : (n : Int) ≤ (c1 : Int) := by omega
        have j2 : (n : Int) ≤ (c2 : Int) := by omega
        have j3 : (0 : Int) ≤ (n : Int) := by omega
        have Q1 := Lib.hid (fun q => SX.out A1 A2 c1 c2 _ _ (w3.drewN q) (rd_take5 (R1.out.below (below_drewN (Below.refl w3.heap.size w3) q) (Nat.le_refl _)) _) (rd_take5 (R2.out.below (below_drewN (Below.refl w3.heap.size w3) q) (Nat.le_refl _)) _))
        have Q2 := Lib.hid (fun q => SV.out _ _ (w3.drewN q) (R0.out.below (below_drewN (Below.refl w3.heap.size w3) q) (Nat.le_refl _)) (S0.out.below (below_drewN (Below.refl w3.heap.size w3) q) (Nat.le_refl _)))
        go_wp2_with fail
        go_quiet (first
          | (go_at_call 17; with_reducible exact Calls.quiet_of_same ((Q1.out _).mono fun _ _ h => ⟨h.1, h.2.symm⟩))
          | (go_at_call 17; with_reducible exact Calls.quiet_of_same ((Q2.out _).mono fun _ _ h => ⟨h.1, h.2.symm⟩)))
        go_wp2_with fail
        go_ret
        exact ⟨by simp, by first | with_reducible exact below_drewN HB.out _ | with_reducible exact HB.out | with_reducible exact HB.out.drew⟩
      · have i2 : ¬ (N1 : Int) ≤ (n : Int) := by omega
        have i3 : min (N1 : Int) (n : Int) = (n : Int) := by omega
        clear hle
        have HB := Lib.hid (Below.refl W.heap.size W)
        go_enter Tryd.func6, Tryd.ntmps6
        go_wp2_with fail
        refine (shown5_any _ (HT.out.below HB.out)).mono ?_
        rintro e w1 ⟨rfl, hb⟩
        have nHB := Lib.hid (bel5 HB.out hb HB.out.size)
        have nR0 := Lib.hid ((R0.out.below hb (Nat.le_refl _)).more hb.size)
        have nS0 := Lib.hid ((S0.out.below hb (Nat.le_refl _)).more hb.size)
        clear hb
        clear HB R0 S0
        have HB := nHB
        have R0 := nR0
        have S0 := nS0
        clear nHB nR0 nS0
        go_wp2_with fail
        refine (CW1.out _ R0.out (HT.out.below HB.out)).mono ?_
        rintro e w2 ⟨⟨A1, c1, rfl, h1a, h1b, h1⟩, hb⟩
        have nHB := Lib.hid (bel5 HB.out hb HB.out.size)
        have nR0 := Lib.hid ((R0.out.below hb (Nat.le_refl _)).more hb.size)
        have nS0 := Lib.hid ((S0.out.below hb (Nat.le_refl _)).more hb.size)
        clear hb
        clear HB R0 S0
        have HB := nHB
        have R0 := nR0
        have S0 := nS0
        clear nHB nR0 nS0
        have R1 := Lib.hid h1
        clear h1
        go_wp2_with fail
        refine (CW2.out _ S0.out (HT.out.below HB.out)).mono ?_
        rintro e w3 ⟨⟨A2, c2, rfl, h2a, h2b, h2⟩, hb⟩
        have nHB := Lib.hid (bel5 HB.out hb HB.out.size)
        have nR0 := Lib.hid ((R0.out.below hb (Nat.le_refl _)).more hb.size)
        have nS0 := Lib.hid ((S0.out.below hb (Nat.le_refl _)).more hb.size)
        have nR1 := Lib.hid ((R1.out.below hb (Nat.le_refl _)).more hb.size)
        clear hb
        clear HB R0 S0 R1
        have HB := nHB
        have R0 := nR0
        have S0 := nS0
        have R1 := nR1
        clear nHB nR0 nS0 nR1
        have R2 := Lib.hid h2
        clear h2
        have j1 : (n : Int) ≤ (c1 : Int) := by omega
        have j2 : (n : Int) ≤ (c2 : Int) := by omega
        have j3 : (0 : Int) ≤ (n : Int) := by omega
        have Q1 := Lib.hid (fun q => SX.out A1 A2 c1 c2 _ _ (w3.drewN q) (rd_take5 (R1.out.below (below_drewN (Below.refl w3.heap.size w3) q) (Nat.le_refl _)) _) (rd_take5 (R2.out.below (below_drewN (Below.refl w3.heap.size w3) q) (Nat.le_refl _)) _))
        have Q2 := Lib.hid (fun q => SV.out _ _ (w3.drewN q) (R0.out.below (below_drewN (Below.refl w3.heap.size w3) q) (Nat.le_refl _)) (S0.out.below (below_drewN (Below.refl w3.heap.size w3) q) (Nat.le_refl _)))
        go_wp2_with fail
        go_quiet (first
          | (go_at_call 17; with_reducible exact Calls.quiet_of_same ((Q1.out _).mono fun _ _ h => ⟨h.1, h.2.symm⟩))
          | (go_at_call 17; with_reducible exact Calls.quiet_of_same ((Q2.out _).mono fun _ _ h => ⟨h.1, h.2.symm⟩)))
        go_wp2_with fail
        go_ret
        exact ⟨by simp, by first | with_reducible exact below_drewN HB.out _ | with_reducible exact HB.out | with_reducible exact HB.out.drew⟩
end Go.Proofs.YtecdmdgpmbgaaaaDoor
