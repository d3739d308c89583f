
/- FieldLong's walk. -/
import Derived.Test.YtecdmdgpmbgaaaaDoorFldS
namespace Go.Proofs.YtecdmdgpmbgaaaaDoor
open Go.RowKit

theorem form_kind (no : Int) (h : fk no ≠ 0) : fk no = 1 ∨ fk no = 2 ∨ fk no = 3 ∨ fk no = 4 ∨ fk no = 5 ∨ fk no = 6 ∨ fk no = 7 := by
  rcases form_bd no with ⟨h1, h2⟩ | ⟨h1, h2, h3⟩ <;> omega
set_option maxRecDepth 100000 in
set_option maxHeartbeats 4000000 in
theorem fieldLong_walk (no : Int) (A : Option Addr) (v : List UInt8) (c : Nat) (W : World) (_ : -9223372036854775808 ≤ no ∧ no ≤ 9223372036854775807) (hc : v.length ≤ c) (hcm : c ≤ 9223372036854775807) (hr : Rd W W.heap.size A v) (hT : Tb W) :
    Calls Tryd.prog 8 #[.int .i64 no, .slice A v.length c] W fun e W' => e = .returned (.bool true) ∧ Below W.heap.size W W' := by
  have HT := Lib.hid hT
  clear hT
  by_cases h500 : 500 < v.length
  · have i0 : (500 : Int) < (v.length : Int) := by omega
    generalize v.length = m at *
    have HB := Lib.hid (Below.refl W.heap.size W)
    go_enter Tryd.func8, Tryd.ntmps8
    go_wp2_with fail
    refine (shown5_any _ (HT.out.below HB.out)).mono ?_
    rintro e w1 ⟨rfl, hb⟩
    have nHB := Lib.hid (bel5 HB.out hb HB.out.size)
    clear hb
    clear HB 
    have HB := nHB
    clear nHB 
    go_wp2_with fail
    go_ret
    exact ⟨rfl, HB.out⟩
  have i0 : ¬ (500 : Int) < (v.length : Int) := by omega
  have CO1 := Lib.hid (fun w (ht : Tb w) => fOf_any no w ht)
  have CW1 := Lib.hid (fun w (h : Rd w w.heap.size A v) (ht : Tb w) => fWrite_any no A v c w (by omega) hc hcm h ht)
  have R0 := Lib.hid hr
  cases hfit : fitsF no v with
  | false =>
    have hL : writeL no v = [] := by unfold writeL; rw [hfit]; rfl
    have hE : writeE no v = 12 ∨ writeE no v = 1 := by unfold writeE; rw [hfit]; by_cases h : fk no = 0 <;> simp [h]
    have hE0 : (writeE no v != 0) = true := by rcases hE with h | h <;> rw [h] <;> rfl
    have hE1 : (writeE no v == 0) = false := by rcases hE with h | h <;> rw [h] <;> rfl
    rw [hL] at CW1
    clear h500 hc hcm hr hL hE hfit
    generalize decide (fk no ≠ 0) = B at *
    generalize fk no = k at *
    generalize fl no = n at *
    generalize writeE no v = E at *
    generalize v.length = m at *
    have HB := Lib.hid (Below.refl W.heap.size W)
    go_enter Tryd.func8, Tryd.ntmps8
    go_wp2_with fail
    refine (shown5_any _ (HT.out.below HB.out)).mono ?_
    rintro e w1 ⟨rfl, hb⟩
    have nHB := Lib.hid (bel5 HB.out hb HB.out.size)
    have nR0 := Lib.hid ((R0.out.below hb (Nat.le_refl _)).more hb.size)
    clear hb
    clear HB R0
    have HB := nHB
    have R0 := nR0
    clear nHB nR0
    go_wp2_with fail
    refine (CO1.out _ (HT.out.below HB.out)).mono ?_
    rintro e w2 ⟨rfl, hb⟩
    have nHB := Lib.hid (bel5 HB.out hb HB.out.size)
    have nR0 := Lib.hid ((R0.out.below hb (Nat.le_refl _)).more hb.size)
    clear hb
    clear HB R0
    have HB := nHB
    have R0 := nR0
    clear nHB nR0
    obtain ⟨V2, hV2⟩ : ∃ V, V = w2.alloc (.cells #[.int .i64 (k : Int), .int .i64 (n : Int)] 25) := ⟨_, rfl⟩
    have ha := (Below.refl w2.heap.size w2).alloc (Nat.le_refl _) (.cells #[.int .i64 (k : Int), .int .i64 (n : Int)] 25)
    have hg := heap_alloc_new w2 (.cells #[.int .i64 (k : Int), .int .i64 (n : Int)] 25)
    have nHB := Lib.hid (HB.out.alloc HB.out.size (.cells #[.int .i64 (k : Int), .int .i64 (n : Int)] 25))
    rw [← hV2] at ha hg nHB
    have nR0 := Lib.hid ((R0.out.below ha (Nat.le_refl _)).more ha.size)
    obtain ⟨g6, hg6⟩ : ∃ g, g = w2.heap.size := ⟨_, rfl⟩
    rw [← hg6] at hg
    have HXG6 := Lib.hid hg6
    have G6 := Lib.hid hg
    have HV := Lib.hid hV2
    clear ha hg hV2 hg6
    clear HB R0
    have HB := nHB
    have R0 := nR0
    clear nHB nR0
    go_wp2_with fail
    rw [← HV.out]
    (try rw [← HXG6.out])
    clear HV HXG6
    refine (CW1.out _ R0.out (HT.out.below HB.out)).mono ?_
    rintro e w3 ⟨⟨A1, c1, rfl, -, -, -⟩, hb⟩
    have nHB := Lib.hid (bel5 HB.out hb HB.out.size)
    have nR0 := Lib.hid ((R0.out.below hb (Nat.le_refl _)).more hb.size)
    have nG6 := Lib.hid (old5 G6.out hb (Nat.le_refl _))
    clear hb
    clear HB R0 G6
    have HB := nHB
    have R0 := nR0
    have G6 := nG6
    clear nHB nR0 nG6
    go_wp2_with fail
    go_ret
    exact ⟨rfl, HB.out⟩
  | true =>
    obtain ⟨z1, z2, z3, z4, z5⟩ := fits_some hfit
    have hE : writeE no v = 0 := by unfold writeE; rw [if_neg z1, if_pos hfit]
    have hlen := write_len hfit
    rw [hE] at CW1
    have e0 : decide (fk no ≠ 0) = true := decide_eq_true z1
    rw [e0] at CO1
    have i1 : (v.length : Int) ≤ (fl no : Int) := by omega
    have i2 : (0 : Int) < (v.length : Int) := by omega
    have hkind := form_kind no z1
    clear h500 hc hcm hr hE hfit e0 z2 z3 z4 z5 z1
    generalize writeL no v = L at *
    generalize fk no = k at *
    generalize fl no = n at *
    generalize v.length = m at *
    obtain ⟨N, hN⟩ : ∃ N, N = L.length := ⟨_, rfl⟩
    rw [← hN] at CW1 hlen
    clear hN
    rcases hkind with rfl | rfl | rfl | rfl | rfl | rfl | rfl
    · have hNN : N = (m + 1) / 2 := by rw [hlen]; simp [cntF, sizeF]
      have i3 : ((m : Int) + 1) / 2 = (((m + 1) / 2 : Nat) : Int) := by omega
      obtain ⟨q, hq⟩ : ∃ q, q = (m + 1) / 2 := ⟨_, rfl⟩
      rw [← hq] at i3 hNN
      have i5 : q ≤ 500 := by omega
      clear hq
      clear hlen
      subst hNN
      have HB := Lib.hid (Below.refl W.heap.size W)
      go_enter Tryd.func8, Tryd.ntmps8
      go_wp2_with fail
      refine (shown5_any _ (HT.out.below HB.out)).mono ?_
      rintro e w1 ⟨rfl, hb⟩
      have nHB := Lib.hid (bel5 HB.out hb HB.out.size)
      have nR0 := Lib.hid ((R0.out.below hb (Nat.le_refl _)).more hb.size)
      clear hb
      clear HB R0
      have HB := nHB
      have R0 := nR0
      clear nHB nR0
      go_wp2_with fail
      refine (CO1.out _ (HT.out.below HB.out)).mono ?_
      rintro e w2 ⟨rfl, hb⟩
      have nHB := Lib.hid (bel5 HB.out hb HB.out.size)
      have nR0 := Lib.hid ((R0.out.below hb (Nat.le_refl _)).more hb.size)
      clear hb
      clear HB R0
      have HB := nHB
      have R0 := nR0
      clear nHB nR0
      obtain ⟨V2, hV2⟩ : ∃ V, V = w2.alloc (.cells #[.int .i64 1, .int .i64 (n : Int)] 25) := ⟨_, rfl⟩
      have ha := (Below.refl w2.heap.size w2).alloc (Nat.le_refl _) (.cells #[.int .i64 1, .int .i64 (n : Int)] 25)
      have hg := heap_alloc_new w2 (.cells #[.int .i64 1, .int .i64 (n : Int)] 25)
      have nHB := Lib.hid (HB.out.alloc HB.out.size (.cells #[.int .i64 1, .int .i64 (n : Int)] 25))
      rw [← hV2] at ha hg nHB
      have nR0 := Lib.hid ((R0.out.below ha (Nat.le_refl _)).more ha.size)
      obtain ⟨g6, hg6⟩ : ∃ g, g = w2.heap.size := ⟨_, rfl⟩
      rw [← hg6] at hg
      have HXG6 := Lib.hid hg6
      have G6 := Lib.hid hg
      have HV := Lib.hid hV2
      clear ha hg hV2 hg6
      clear HB R0
      have HB := nHB
      have R0 := nR0
      clear nHB nR0
      go_wp2_with fail
      rw [← HV.out]
      (try rw [← HXG6.out])
      clear HV HXG6
      refine (CW1.out _ R0.out (HT.out.below HB.out)).mono ?_
      rintro e w3 ⟨⟨A1, c1, rfl, -, -, -⟩, hb⟩
      have nHB := Lib.hid (bel5 HB.out hb HB.out.size)
      have nR0 := Lib.hid ((R0.out.below hb (Nat.le_refl _)).more hb.size)
      have nG6 := Lib.hid (old5 G6.out hb (Nat.le_refl _))
      clear hb
      clear HB R0 G6
      have HB := nHB
      have R0 := nR0
      have G6 := nG6
      clear nHB nR0 nG6
      obtain ⟨x0, x1⟩ := cells2 G6.out
      go_wp2_with fail
      go_ret
      exact ⟨by first | rfl | simp, HB.out⟩
    · have hNN : N = (m + 1) / 2 + 1 := by rw [hlen]; simp [cntF, sizeF]; omega
      have i3 : ((m : Int) + 1) / 2 = (((m + 1) / 2 : Nat) : Int) := by omega
      obtain ⟨q, hq⟩ : ∃ q, q = (m + 1) / 2 := ⟨_, rfl⟩
      rw [← hq] at i3 hNN
      have i5 : q ≤ 500 := by omega
      clear hq
      clear hlen
      have i4 : ((N : Int) == (q : Int) + 1) = true := beq_iff_eq.2 (by omega)
      have i6 : (N : Int) = (q : Int) + 1 := by omega
      clear hNN
      have HB := Lib.hid (Below.refl W.heap.size W)
      go_enter Tryd.func8, Tryd.ntmps8
      go_wp2_with fail
      refine (shown5_any _ (HT.out.below HB.out)).mono ?_
      rintro e w1 ⟨rfl, hb⟩
      have nHB := Lib.hid (bel5 HB.out hb HB.out.size)
      have nR0 := Lib.hid ((R0.out.below hb (Nat.le_refl _)).more hb.size)
      clear hb
      clear HB R0
      have HB := nHB
      have R0 := nR0
      clear nHB nR0
      go_wp2_with fail
      refine (CO1.out _ (HT.out.below HB.out)).mono ?_
      rintro e w2 ⟨rfl, hb⟩
      have nHB := Lib.hid (bel5 HB.out hb HB.out.size)
      have nR0 := Lib.hid ((R0.out.below hb (Nat.le_refl _)).more hb.size)
      clear hb
      clear HB R0
      have HB := nHB
      have R0 := nR0
      clear nHB nR0
      obtain ⟨V2, hV2⟩ : ∃ V, V = w2.alloc (.cells #[.int .i64 2, .int .i64 (n : Int)] 25) := ⟨_, rfl⟩
      have ha := (Below.refl w2.heap.size w2).alloc (Nat.le_refl _) (.cells #[.int .i64 2, .int .i64 (n : Int)] 25)
      have hg := heap_alloc_new w2 (.cells #[.int .i64 2, .int .i64 (n : Int)] 25)
      have nHB := Lib.hid (HB.out.alloc HB.out.size (.cells #[.int .i64 2, .int .i64 (n : Int)] 25))
      rw [← hV2] at ha hg nHB
      have nR0 := Lib.hid ((R0.out.below ha (Nat.le_refl _)).more ha.size)
      obtain ⟨g6, hg6⟩ : ∃ g, g = w2.heap.size := ⟨_, rfl⟩
      rw [← hg6] at hg
      have HXG6 := Lib.hid hg6
      have G6 := Lib.hid hg
      have HV := Lib.hid hV2
      clear ha hg hV2 hg6
      clear HB R0
      have HB := nHB
      have R0 := nR0
      clear nHB nR0
      go_wp2_with fail
      rw [← HV.out]
      (try rw [← HXG6.out])
      clear HV HXG6
      refine (CW1.out _ R0.out (HT.out.below HB.out)).mono ?_
      rintro e w3 ⟨⟨A1, c1, rfl, -, -, -⟩, hb⟩
      have nHB := Lib.hid (bel5 HB.out hb HB.out.size)
      have nR0 := Lib.hid ((R0.out.below hb (Nat.le_refl _)).more hb.size)
      have nG6 := Lib.hid (old5 G6.out hb (Nat.le_refl _))
      clear hb
      clear HB R0 G6
      have HB := nHB
      have R0 := nR0
      have G6 := nG6
      clear nHB nR0 nG6
      obtain ⟨x0, x1⟩ := cells2 G6.out
      go_wp2_with fail
      go_ret
      exact ⟨by first | rfl | simp, HB.out⟩
    · have hNN : N = m := by rw [hlen]; simp [cntF, sizeF]
      clear hlen
      subst hNN
      have HB := Lib.hid (Below.refl W.heap.size W)
      go_enter Tryd.func8, Tryd.ntmps8
      go_wp2_with fail
      refine (shown5_any _ (HT.out.below HB.out)).mono ?_
      rintro e w1 ⟨rfl, hb⟩
      have nHB := Lib.hid (bel5 HB.out hb HB.out.size)
      have nR0 := Lib.hid ((R0.out.below hb (Nat.le_refl _)).more hb.size)
      clear hb
      clear HB R0
      have HB := nHB
      have R0 := nR0
      clear nHB nR0
      go_wp2_with fail
      refine (CO1.out _ (HT.out.below HB.out)).mono ?_
      rintro e w2 ⟨rfl, hb⟩
      have nHB := Lib.hid (bel5 HB.out hb HB.out.size)
      have nR0 := Lib.hid ((R0.out.below hb (Nat.le_refl _)).more hb.size)
      clear hb
      clear HB R0
      have HB := nHB
      have R0 := nR0
      clear nHB nR0
      obtain ⟨V2, hV2⟩ : ∃ V, V = w2.alloc (.cells #[.int .i64 3, .int .i64 (n : Int)] 25) := ⟨_, rfl⟩
      have ha := (Below.refl w2.heap.size w2).alloc (Nat.le_refl _) (.cells #[.int .i64 3, .int .i64 (n : Int)] 25)
      have hg := heap_alloc_new w2 (.cells #[.int .i64 3, .int .i64 (n : Int)] 25)
      have nHB := Lib.hid (HB.out.alloc HB.out.size (.cells #[.int .i64 3, .int .i64 (n : Int)] 25))
      rw [← hV2] at ha hg nHB
      have nR0 := Lib.hid ((R0.out.below ha (Nat.le_refl _)).more ha.size)
      obtain ⟨g6, hg6⟩ : ∃ g, g = w2.heap.size := ⟨_, rfl⟩
      rw [← hg6] at hg
      have HXG6 := Lib.hid hg6
      have G6 := Lib.hid hg
      have HV := Lib.hid hV2
      clear ha hg hV2 hg6
      clear HB R0
      have HB := nHB
      have R0 := nR0
      clear nHB nR0
      go_wp2_with fail
      rw [← HV.out]
      (try rw [← HXG6.out])
      clear HV HXG6
      refine (CW1.out _ R0.out (HT.out.below HB.out)).mono ?_
      rintro e w3 ⟨⟨A1, c1, rfl, -, -, -⟩, hb⟩
      have nHB := Lib.hid (bel5 HB.out hb HB.out.size)
      have nR0 := Lib.hid ((R0.out.below hb (Nat.le_refl _)).more hb.size)
      have nG6 := Lib.hid (old5 G6.out hb (Nat.le_refl _))
      clear hb
      clear HB R0 G6
      have HB := nHB
      have R0 := nR0
      have G6 := nG6
      clear nHB nR0 nG6
      obtain ⟨x0, x1⟩ := cells2 G6.out
      go_wp2_with fail
      go_ret
      exact ⟨by first | rfl | simp, HB.out⟩
    · have hNN : N = m + 1 := by rw [hlen]; simp [cntF, sizeF]; omega
      clear hlen
      have i4 : ((N : Int) == (m : Int) + 1) = true := beq_iff_eq.2 (by omega)
      have i6 : (N : Int) = (m : Int) + 1 := by omega
      clear hNN
      have HB := Lib.hid (Below.refl W.heap.size W)
      go_enter Tryd.func8, Tryd.ntmps8
      go_wp2_with fail
      refine (shown5_any _ (HT.out.below HB.out)).mono ?_
      rintro e w1 ⟨rfl, hb⟩
      have nHB := Lib.hid (bel5 HB.out hb HB.out.size)
      have nR0 := Lib.hid ((R0.out.below hb (Nat.le_refl _)).more hb.size)
      clear hb
      clear HB R0
      have HB := nHB
      have R0 := nR0
      clear nHB nR0
      go_wp2_with fail
      refine (CO1.out _ (HT.out.below HB.out)).mono ?_
      rintro e w2 ⟨rfl, hb⟩
      have nHB := Lib.hid (bel5 HB.out hb HB.out.size)
      have nR0 := Lib.hid ((R0.out.below hb (Nat.le_refl _)).more hb.size)
      clear hb
      clear HB R0
      have HB := nHB
      have R0 := nR0
      clear nHB nR0
      obtain ⟨V2, hV2⟩ : ∃ V, V = w2.alloc (.cells #[.int .i64 4, .int .i64 (n : Int)] 25) := ⟨_, rfl⟩
      have ha := (Below.refl w2.heap.size w2).alloc (Nat.le_refl _) (.cells #[.int .i64 4, .int .i64 (n : Int)] 25)
      have hg := heap_alloc_new w2 (.cells #[.int .i64 4, .int .i64 (n : Int)] 25)
      have nHB := Lib.hid (HB.out.alloc HB.out.size (.cells #[.int .i64 4, .int .i64 (n : Int)] 25))
      rw [← hV2] at ha hg nHB
      have nR0 := Lib.hid ((R0.out.below ha (Nat.le_refl _)).more ha.size)
      obtain ⟨g6, hg6⟩ : ∃ g, g = w2.heap.size := ⟨_, rfl⟩
      rw [← hg6] at hg
      have HXG6 := Lib.hid hg6
      have G6 := Lib.hid hg
      have HV := Lib.hid hV2
      clear ha hg hV2 hg6
      clear HB R0
      have HB := nHB
      have R0 := nR0
      clear nHB nR0
      go_wp2_with fail
      rw [← HV.out]
      (try rw [← HXG6.out])
      clear HV HXG6
      refine (CW1.out _ R0.out (HT.out.below HB.out)).mono ?_
      rintro e w3 ⟨⟨A1, c1, rfl, -, -, -⟩, hb⟩
      have nHB := Lib.hid (bel5 HB.out hb HB.out.size)
      have nR0 := Lib.hid ((R0.out.below hb (Nat.le_refl _)).more hb.size)
      have nG6 := Lib.hid (old5 G6.out hb (Nat.le_refl _))
      clear hb
      clear HB R0 G6
      have HB := nHB
      have R0 := nR0
      have G6 := nG6
      clear nHB nR0 nG6
      obtain ⟨x0, x1⟩ := cells2 G6.out
      go_wp2_with fail
      go_ret
      exact ⟨by first | rfl | simp, HB.out⟩
    · have hNN : N = m + 2 := by rw [hlen]; simp [cntF, sizeF]; omega
      clear hlen
      have i4 : ((N : Int) == (m : Int) + 2) = true := beq_iff_eq.2 (by omega)
      have i6 : (N : Int) = (m : Int) + 2 := by omega
      clear hNN
      have HB := Lib.hid (Below.refl W.heap.size W)
      go_enter Tryd.func8, Tryd.ntmps8
      go_wp2_with fail
      refine (shown5_any _ (HT.out.below HB.out)).mono ?_
      rintro e w1 ⟨rfl, hb⟩
      have nHB := Lib.hid (bel5 HB.out hb HB.out.size)
      have nR0 := Lib.hid ((R0.out.below hb (Nat.le_refl _)).more hb.size)
      clear hb
      clear HB R0
      have HB := nHB
      have R0 := nR0
      clear nHB nR0
      go_wp2_with fail
      refine (CO1.out _ (HT.out.below HB.out)).mono ?_
      rintro e w2 ⟨rfl, hb⟩
      have nHB := Lib.hid (bel5 HB.out hb HB.out.size)
      have nR0 := Lib.hid ((R0.out.below hb (Nat.le_refl _)).more hb.size)
      clear hb
      clear HB R0
      have HB := nHB
      have R0 := nR0
      clear nHB nR0
      obtain ⟨V2, hV2⟩ : ∃ V, V = w2.alloc (.cells #[.int .i64 5, .int .i64 (n : Int)] 25) := ⟨_, rfl⟩
      have ha := (Below.refl w2.heap.size w2).alloc (Nat.le_refl _) (.cells #[.int .i64 5, .int .i64 (n : Int)] 25)
      have hg := heap_alloc_new w2 (.cells #[.int .i64 5, .int .i64 (n : Int)] 25)
      have nHB := Lib.hid (HB.out.alloc HB.out.size (.cells #[.int .i64 5, .int .i64 (n : Int)] 25))
      rw [← hV2] at ha hg nHB
      have nR0 := Lib.hid ((R0.out.below ha (Nat.le_refl _)).more ha.size)
      obtain ⟨g6, hg6⟩ : ∃ g, g = w2.heap.size := ⟨_, rfl⟩
      rw [← hg6] at hg
      have HXG6 := Lib.hid hg6
      have G6 := Lib.hid hg
      have HV := Lib.hid hV2
      clear ha hg hV2 hg6
      clear HB R0
      have HB := nHB
      have R0 := nR0
      clear nHB nR0
      go_wp2_with fail
      rw [← HV.out]
      (try rw [← HXG6.out])
      clear HV HXG6
      refine (CW1.out _ R0.out (HT.out.below HB.out)).mono ?_
      rintro e w3 ⟨⟨A1, c1, rfl, -, -, -⟩, hb⟩
      have nHB := Lib.hid (bel5 HB.out hb HB.out.size)
      have nR0 := Lib.hid ((R0.out.below hb (Nat.le_refl _)).more hb.size)
      have nG6 := Lib.hid (old5 G6.out hb (Nat.le_refl _))
      clear hb
      clear HB R0 G6
      have HB := nHB
      have R0 := nR0
      have G6 := nG6
      clear nHB nR0 nG6
      obtain ⟨x0, x1⟩ := cells2 G6.out
      go_wp2_with fail
      go_ret
      exact ⟨by first | rfl | simp, HB.out⟩
    · have hNN : N = m := by rw [hlen]; simp [cntF, sizeF]
      clear hlen
      subst hNN
      have HB := Lib.hid (Below.refl W.heap.size W)
      go_enter Tryd.func8, Tryd.ntmps8
      go_wp2_with fail
      refine (shown5_any _ (HT.out.below HB.out)).mono ?_
      rintro e w1 ⟨rfl, hb⟩
      have nHB := Lib.hid (bel5 HB.out hb HB.out.size)
      have nR0 := Lib.hid ((R0.out.below hb (Nat.le_refl _)).more hb.size)
      clear hb
      clear HB R0
      have HB := nHB
      have R0 := nR0
      clear nHB nR0
      go_wp2_with fail
      refine (CO1.out _ (HT.out.below HB.out)).mono ?_
      rintro e w2 ⟨rfl, hb⟩
      have nHB := Lib.hid (bel5 HB.out hb HB.out.size)
      have nR0 := Lib.hid ((R0.out.below hb (Nat.le_refl _)).more hb.size)
      clear hb
      clear HB R0
      have HB := nHB
      have R0 := nR0
      clear nHB nR0
      obtain ⟨V2, hV2⟩ : ∃ V, V = w2.alloc (.cells #[.int .i64 6, .int .i64 (n : Int)] 25) := ⟨_, rfl⟩
      have ha := (Below.refl w2.heap.size w2).alloc (Nat.le_refl _) (.cells #[.int .i64 6, .int .i64 (n : Int)] 25)
      have hg := heap_alloc_new w2 (.cells #[.int .i64 6, .int .i64 (n : Int)] 25)
      have nHB := Lib.hid (HB.out.alloc HB.out.size (.cells #[.int .i64 6, .int .i64 (n : Int)] 25))
      rw [← hV2] at ha hg nHB
      have nR0 := Lib.hid ((R0.out.below ha (Nat.le_refl _)).more ha.size)
      obtain ⟨g6, hg6⟩ : ∃ g, g = w2.heap.size := ⟨_, rfl⟩
      rw [← hg6] at hg
      have HXG6 := Lib.hid hg6
      have G6 := Lib.hid hg
      have HV := Lib.hid hV2
      clear ha hg hV2 hg6
      clear HB R0
      have HB := nHB
      have R0 := nR0
      clear nHB nR0
      go_wp2_with fail
      rw [← HV.out]
      (try rw [← HXG6.out])
      clear HV HXG6
      refine (CW1.out _ R0.out (HT.out.below HB.out)).mono ?_
      rintro e w3 ⟨⟨A1, c1, rfl, -, -, -⟩, hb⟩
      have nHB := Lib.hid (bel5 HB.out hb HB.out.size)
      have nR0 := Lib.hid ((R0.out.below hb (Nat.le_refl _)).more hb.size)
      have nG6 := Lib.hid (old5 G6.out hb (Nat.le_refl _))
      clear hb
      clear HB R0 G6
      have HB := nHB
      have R0 := nR0
      have G6 := nG6
      clear nHB nR0 nG6
      obtain ⟨x0, x1⟩ := cells2 G6.out
      go_wp2_with fail
      go_ret
      exact ⟨by first | rfl | simp, HB.out⟩
    · have hNN : N = m + 2 := by rw [hlen]; simp [cntF, sizeF]; omega
      clear hlen
      have i4 : ((N : Int) == (m : Int) + 2) = true := beq_iff_eq.2 (by omega)
      have i6 : (N : Int) = (m : Int) + 2 := by omega
      clear hNN
      have HB := Lib.hid (Below.refl W.heap.size W)
      go_enter Tryd.func8, Tryd.ntmps8
      go_wp2_with fail
      refine (shown5_any _ (HT.out.below HB.out)).mono ?_
      rintro e w1 ⟨rfl, hb⟩
      have nHB := Lib.hid (bel5 HB.out hb HB.out.size)
      have nR0 := Lib.hid ((R0.out.below hb (Nat.le_refl _)).more hb.size)
      clear hb
      clear HB R0
      have HB := nHB
      have R0 := nR0
      clear nHB nR0
      go_wp2_with fail
      refine (CO1.out _ (HT.out.below HB.out)).mono ?_
      rintro e w2 ⟨rfl, hb⟩
      have nHB := Lib.hid (bel5 HB.out hb HB.out.size)
      have nR0 := Lib.hid ((R0.out.below hb (Nat.le_refl _)).more hb.size)
      clear hb
      clear HB R0
      have HB := nHB
      have R0 := nR0
      clear nHB nR0
      obtain ⟨V2, hV2⟩ : ∃ V, V = w2.alloc (.cells #[.int .i64 7, .int .i64 (n : Int)] 25) := ⟨_, rfl⟩
      have ha := (Below.refl w2.heap.size w2).alloc (Nat.le_refl _) (.cells #[.int .i64 7, .int .i64 (n : Int)] 25)
      have hg := heap_alloc_new w2 (.cells #[.int .i64 7, .int .i64 (n : Int)] 25)
      have nHB := Lib.hid (HB.out.alloc HB.out.size (.cells #[.int .i64 7, .int .i64 (n : Int)] 25))
      rw [← hV2] at ha hg nHB
      have nR0 := Lib.hid ((R0.out.below ha (Nat.le_refl _)).more ha.size)
      obtain ⟨g6, hg6⟩ : ∃ g, g = w2.heap.size := ⟨_, rfl⟩
      rw [← hg6] at hg
      have HXG6 := Lib.hid hg6
      have G6 := Lib.hid hg
      have HV := Lib.hid hV2
      clear ha hg hV2 hg6
      clear HB R0
      have HB := nHB
      have R0 := nR0
      clear nHB nR0
      go_wp2_with fail
      rw [← HV.out]
      (try rw [← HXG6.out])
      clear HV HXG6
      refine (CW1.out _ R0.out (HT.out.below HB.out)).mono ?_
      rintro e w3 ⟨⟨A1, c1, rfl, -, -, -⟩, hb⟩
      have nHB := Lib.hid (bel5 HB.out hb HB.out.size)
      have nR0 := Lib.hid ((R0.out.below hb (Nat.le_refl _)).more hb.size)
      have nG6 := Lib.hid (old5 G6.out hb (Nat.le_refl _))
      clear hb
      clear HB R0 G6
      have HB := nHB
      have R0 := nR0
      have G6 := nG6
      clear nHB nR0 nG6
      obtain ⟨x0, x1⟩ := cells2 G6.out
      go_wp2_with fail
      go_ret
      exact ⟨by first | rfl | simp, HB.out⟩
end Go.Proofs.YtecdmdgpmbgaaaaDoor
