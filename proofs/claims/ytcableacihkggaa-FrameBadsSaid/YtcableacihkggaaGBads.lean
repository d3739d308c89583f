
/- FrameBads' walk. -/
import Derived.Test.YtcableacihkggaaJ23
import Derived.Test.YtcableacihkggaaJ24
namespace Go.Proofs.Ytcableacihkggaa
open Go.RowKit

set_option maxRecDepth 100000 in
theorem bads_push (n : Nat) (h : n = 0 ∨ 1024 < n) (hn : n ≤ 65535) (x : UInt8) {b : List UInt8} (hb : 1 ≤ b.length ∧ b.length ≤ 1024) :
    pushF ⟨[], 0, 0⟩ (([UInt8.ofNat (n / 256), UInt8.ofNat (n % 256)] ++ List.replicate n x) ++ packW b) = (⟨[], 0, 1⟩, [b]) := by
  rw [pushF_append, pushF_append, push_bad n h hn, push_skip, push_whole hb]
  rfl
set_option maxRecDepth 100000 in
set_option maxHeartbeats 4000000 in
theorem frameBads_walk (n : Int) (y : Int) (A : Option Addr) (b : List UInt8) (c : Nat) (W : World) (hn : 0 ≤ n ∧ n ≤ 65535) (hy : 0 ≤ y ∧ y ≤ 255) (hc : b.length ≤ c) (hcm : c ≤ 9223372036854775807) (hr : Rd W W.heap.size A b) :
    Calls Try.prog 8 #[.int .u16 n, .int .u8 y, .slice A b.length c] W fun e W' => e = .returned (.bool true) ∧ Below W.heap.size W W' := by
  have R0 := Lib.hid hr
  by_cases h1 : b.length < 1
  case pos =>
    have i0 : (b.length : Int) < 1 := by omega
    clear hr hc hcm
    generalize b.length = q at *
    have HB := Lib.hid (Below.refl W.heap.size W)
    go_enter Try.func8, Try.ntmps8
    go_wp2_with fail
    refine (shown8_any _).mono ?_
    rintro e w1 ⟨rfl, hb⟩
    have nHB := Lib.hid (belG HB.out hb HB.out.size)
    have nR0 := Lib.hid ((R0.out.below hb (Nat.le_refl _)).more hb.size)
    clear hb
    clear HB R0
    have HB := nHB
    have R0 := nR0
    clear nHB nR0
    go_wp2_with fail
    go_ret
    exact ⟨rfl, HB.out⟩
  have i0 : ¬ (b.length : Int) < 1 := by omega
  by_cases h2 : 300 < b.length
  case pos =>
    have i1 : (300 : Int) < (b.length : Int) := by omega
    clear hr hc hcm
    generalize b.length = q at *
    have HB := Lib.hid (Below.refl W.heap.size W)
    go_enter Try.func8, Try.ntmps8
    go_wp2_with fail
    refine (shown8_any _).mono ?_
    rintro e w1 ⟨rfl, hb⟩
    have nHB := Lib.hid (belG HB.out hb HB.out.size)
    have nR0 := Lib.hid ((R0.out.below hb (Nat.le_refl _)).more hb.size)
    clear hb
    clear HB R0
    have HB := nHB
    have R0 := nR0
    clear nHB nR0
    go_wp2_with fail
    go_ret
    exact ⟨rfl, HB.out⟩
  have i1 : ¬ (300 : Int) < (b.length : Int) := by omega
  by_cases h3 : 1 ≤ n ∧ n ≤ 1024
  case pos =>
    obtain ⟨i2, i3⟩ := h3
    clear hr hc hcm
    generalize b.length = q at *
    have HB := Lib.hid (Below.refl W.heap.size W)
    go_enter Try.func8, Try.ntmps8
    go_wp2_with fail
    refine (shown8_any _).mono ?_
    rintro e w1 ⟨rfl, hb⟩
    have nHB := Lib.hid (belG HB.out hb HB.out.size)
    have nR0 := Lib.hid ((R0.out.below hb (Nat.le_refl _)).more hb.size)
    clear hb
    clear HB R0
    have HB := nHB
    have R0 := nR0
    clear nHB nR0
    go_wp2_with fail
    go_ret
    exact ⟨rfl, HB.out⟩
  by_cases h4 : 3000 < n
  case pos =>
    have i2 : (1 : Int) ≤ n := by omega
    have i3 : ¬ n ≤ 1024 := by omega
    clear h3
    clear hr hc hcm
    generalize b.length = q at *
    have HB := Lib.hid (Below.refl W.heap.size W)
    go_enter Try.func8, Try.ntmps8
    go_wp2_with fail
    refine (shown8_any _).mono ?_
    rintro e w1 ⟨rfl, hb⟩
    have nHB := Lib.hid (belG HB.out hb HB.out.size)
    have nR0 := Lib.hid ((R0.out.below hb (Nat.le_refl _)).more hb.size)
    clear hb
    clear HB R0
    have HB := nHB
    have R0 := nR0
    clear nHB nR0
    go_wp2_with fail
    go_ret
    exact ⟨rfl, HB.out⟩
  obtain ⟨tn, rfl⟩ := Int.eq_ofNat_of_zero_le hn.1
  obtain ⟨x, rfl⟩ : ∃ x : UInt8, y = (x.toNat : Int) := ⟨UInt8.ofNat y.toNat, by rw [UInt8.toNat_ofNat']; omega⟩
  have hb : 1 ≤ b.length ∧ b.length ≤ 1024 := by omega
  have hpl := pack_len hb
  have hbp := bads_push tn (by omega) (by omega) x hb
  have hbd := push_bad tn (by omega) (by omega)
  obtain ⟨q, hq⟩ : ∃ q : UInt8, q = UInt8.ofNat (tn / 256) := ⟨_, rfl⟩
  obtain ⟨r, hr'⟩ : ∃ q : UInt8, q = UInt8.ofNat (tn % 256) := ⟨_, rfl⟩
  rw [← hq, ← hr'] at hbp hbd
  have q1 : q.toNat = tn / 256 := by rw [hq, UInt8.toNat_ofNat']; omega
  have r1 : r.toNat = tn % 256 := by rw [hr', UInt8.toNat_ofNat']; omega
  have q2 : (tn : Int) / 256 = (q.toNat : Int) := by omega
  have q3 : (tn : Int).tdiv 256 = (q.toNat : Int) := by rw [Int.tdiv_eq_ediv_of_nonneg (by omega)]; exact q2
  have r2 : (tn : Int) % 256 = (r.toNat : Int) := by omega
  have r3 : (tn : Int).tmod 256 = (r.toNat : Int) := by rw [Int.tmod_eq_emod_of_nonneg (by omega)]; exact r2
  have q4 := q.toNat_lt
  have r4 := r.toNat_lt
  have htn : tn ≤ 3000 := by omega
  have C1 := Lib.hid (fun w (hB : Below W.heap.size W w) (h : Rd w w.heap.size A b) => fPack_any A b c w (by omega) hc hcm h)
  have C2 := Lib.hid (fun (A1 : Option Addr) (c1 : Nat) w (hB : Below W.heap.size W w) (p1 : tn + 2 + (b.length + 2) ≤ c1) (p2 : c1 ≤ 9223372036854775807) (h : Rd w w.heap.size A1 (([q, r] ++ List.replicate tn x) ++ packW b)) => (show Calls Try.prog 17 #[.agg #[.slice none 0 0, .int .i64 0, .int .i64 0], .slice A1 (tn + 2 + (b.length + 2)) c1] w fun e W' => AnsPush W' e ⟨[], 0, 1⟩ [b] ∧ Below w.heap.size w W' from by
    have hl : (([q, r] ++ List.replicate tn x) ++ packW b).length = tn + 2 + (b.length + 2) := by rw [List.length_append, List.length_append, List.length_replicate, hpl.2]; simp; omega
    have h9 := fPush_any none [] 0 0 0 A1 (([q, r] ++ List.replicate tn x) ++ packW b) c1 w (by decide) (Nat.le_refl _) (by decide) (by decide) Rd.nil (by rw [hl]; omega) (by rw [hl]; exact p1) p2 h
    rw [hl, hbp] at h9
    exact h9))
  have C3 := Lib.hid (fun (A1 : Option Addr) (c1 : Nat) w (hB : Below W.heap.size W w) (p1 : 2 ≤ c1) (p2 : c1 ≤ 9223372036854775807) (h : Rd w w.heap.size A1 ([q, r] ++ List.replicate tn x)) => (show Calls Try.prog 17 #[.agg #[.slice none 0 0, .int .i64 0, .int .i64 0], .slice A1 2 c1] w fun e W' => AnsPush W' e ⟨[], (tn : Nat), 1⟩ [] ∧ Below w.heap.size w W' from by
    have h9 := fPush_any none [] 0 0 0 A1 [q, r] c1 w (by decide) (Nat.le_refl _) (by decide) (by decide) Rd.nil (by simp) p1 p2 (by have h8 := rd_takeG h 2; simpa using h8)
    rw [hbd] at h9
    exact h9))
  have SB := Lib.hid (fun (A1 : Option Addr) (c1 : Nat) w (hB : Below W.heap.size W w) (h1 : Rd w w.heap.size A1 b) (h2 : Rd w w.heap.size A b) => same_any A1 A b b c1 c _ _ w h1 h2)
  simp only [decide_true] at SB
  rw [show packE b = 0 from if_pos hb, hpl.2] at C1
  unfold AnsPush at C2 C3
  simp only [List.length_nil, List.length_cons, Nat.zero_add] at C2 C3
  have HPL := Lib.hid hpl.2
  have HBL := Lib.hid h2
  clear hr hc hcm hb hpl hbp hbd hq hr' q1 r1 h1 h2 hn hy
  obtain ⟨O, hO⟩ : ∃ O, O = packW b := ⟨_, rfl⟩
  rw [← hO] at C1 C2 HPL
  clear hO
  obtain ⟨m, hm⟩ : ∃ m, m = b.length := ⟨_, rfl⟩
  have HM := Lib.hid hm
  rw [← hm] at C1 C2 i0 i1 HPL HBL SB ⊢
  clear hm
  have j4 : ¬ (3000 : Int) < (tn : Int) := by omega
  have HTN := Lib.hid htn
  by_cases hz : (tn : Int) < 1
  case pos =>
    have j5 : ¬ (1 : Int) ≤ (tn : Int) := by omega
    clear h3 h4 hz
    have HB := Lib.hid (Below.refl W.heap.size W)
    go_enter Try.func8, Try.ntmps8
    go_wp2_with fail
    refine (shown8_any _).mono ?_
    rintro e w1 ⟨rfl, hb⟩
    have nHB := Lib.hid (belG HB.out hb HB.out.size)
    have nR0 := Lib.hid ((R0.out.below hb (Nat.le_refl _)).more hb.size)
    clear hb
    clear HB R0
    have HB := nHB
    have R0 := nR0
    clear nHB nR0
    go_wp2_with fail
    refine (C1.out _ HB.out R0.out).mono ?_
    rintro e w2 ⟨⟨A1, c1, rfl, p1, p2, h1⟩, hb⟩
    have nHB := Lib.hid (belG HB.out hb HB.out.size)
    have nR0 := Lib.hid ((R0.out.below hb (Nat.le_refl _)).more hb.size)
    clear hb
    clear HB R0
    have HB := nHB
    have R0 := nR0
    clear nHB nR0
    have R1 := Lib.hid h1
    clear h1
    have HM2 := Lib.hid (show Ow (w2.alloc (.cells #[.int .u8 (q.toNat : Int), .int .u8 (r.toNat : Int)] 5)) w2.heap.size (.slice (some ⟨w2.heap.size, 0, none⟩) 2 2) [q, r] from Ow.madeL w2 (Nat.le_refl _) [q, r] (by simp))
    have HB_0 := HB
    have R0_0 := R0
    go_wp2
    go_loopw [10, 11] (fun va i wr => ∃ k : Nat, k ≤ tn ∧ i = .int .i64 k ∧ Hid (Ow wr w2.heap.size va ([q, r] ++ List.replicate k x)) ∧ Hid (Below w2.heap.size w2 wr)) (fun _ i _ => tn - (intOf i).toNat)
    case atStart => exact ⟨0, Nat.zero_le _, rfl, Lib.hid (by simpa using HM2.out), Lib.hid ((Below.refl _ _).alloc (Nat.le_refl _) _)⟩
    case round =>
      obtain ⟨k, hk, rfl, HO, HBV⟩ := hrel
      by_cases hlt : k < tn
      · exact absurd hlt (by omega)
      · have hki : ¬ (k : Int) < (tn : Int) := by omega
        have hkn : k = tn := by omega
        subst hkn
        obtain ⟨g6, c6, e6, -, -⟩ := World.ownsRow.form HO.out (by simp)
        have hln : ([q, r] ++ List.replicate k x).length = k + 2 := by rw [List.length_append, List.length_replicate]; show 2 + k = k + 2; omega
        rw [hln] at e6
        subst e6
        have HLN := Lib.hid hln
        obtain ⟨L, hL⟩ : ∃ L, L = [q, r] ++ List.replicate k x := ⟨_, rfl⟩
        rw [← hL] at HO HLN C2 C3
        clear hL hln
        have HBW := Lib.hid (belG HB.out HBV.out HB.out.size)
        have R0w := Lib.hid (R0.out.go HBV.out)
        have R1w := Lib.hid (R1.out.go HBV.out)
        obtain ⟨-, bd1, bd2, -, -⟩ := Ow.bdG HO.out
        rw [HLN.out] at bd1
        clear HB R0 R1 p1 p2
        go_wp2_with (at_builtin; refine wpList_appSK _ rfl (.tmp 62) (.tmp 63) rfl w2.heap.size g6 (k + 2) c6 L O rfl HO.out A1 (m + 2) c1 wr.heap.size rfl HPL.out.symm (by exact R1w.out) (by rw [HPL.out]; omega) (by rw [HLN.out, HPL.out]; have := HTN.out; have := HBL.out; omega) HBV.out.size ?_; intro v7 w7 hown7 hgrow7 hrd7; have hb7 := Ow.below (w0 := w2) HO.out HBV.out hgrow7 HBV.out.size; have HB7 := Lib.hid hb7; have HRL := Lib.hid hrd7; obtain ⟨A7, c7, e7, k1, k2, k3⟩ := hown7.form; rw [List.length_append, HLN.out, HPL.out] at e7 k1; subst e7; have K1 := Lib.hid k1; have K2 := Lib.hid k2; have K3 := Lib.hid k3; clear hown7 hgrow7 hrd7 hb7 k1 k2 k3)
        have HB := Lib.hid (belG HB_0.out HB7.out HB_0.out.size)
        have R0 := Lib.hid (R0_0.out.go HB7.out)
        clear HBW R0w R1w HB_0 R0_0
        refine (C2.out A7 c7 _ HB.out K1.out K2.out K3.out).mono ?_
        rintro e w41 ⟨⟨A8, c8, A9, c9, rfl, -, -, -, -, -, h9⟩, hb⟩
        have nHB := Lib.hid (belG HB.out hb HB.out.size)
        have nR0 := Lib.hid ((R0.out.below hb (Nat.le_refl _)).more hb.size)
        have nHRL := Lib.hid ((HRL.out.below hb (Nat.le_refl _)).more hb.size)
        clear hb
        clear HB R0 HRL
        have HB := nHB
        have R0 := nR0
        have HRL := nHRL
        clear nHB nR0 nHRL
        have RM := Lib.hid h9
        clear h9
        obtain ⟨V41, hV41⟩ : ∃ V, V = w41.alloc (.cells #[.slice A8 0 c8, .int .i64 0, .int .i64 1] 24) := ⟨_, rfl⟩
        have ha := (Below.refl w41.heap.size w41).alloc (Nat.le_refl _) (.cells #[.slice A8 0 c8, .int .i64 0, .int .i64 1] 24)
        have hg := heap_alloc_new w41 (.cells #[.slice A8 0 c8, .int .i64 0, .int .i64 1] 24)
        have nHB := Lib.hid (HB.out.alloc HB.out.size (.cells #[.slice A8 0 c8, .int .i64 0, .int .i64 1] 24))
        rw [← hV41] at ha hg nHB
        have nR0 := Lib.hid ((R0.out.below ha (Nat.le_refl _)).more ha.size)
        have nHRL := Lib.hid ((HRL.out.below ha (Nat.le_refl _)).more ha.size)
        have nRM := Lib.hid ((RM.out.below ha (Nat.le_refl _)).more ha.size)
        obtain ⟨g1, hg1⟩ : ∃ g, g = w41.heap.size := ⟨_, rfl⟩
        rw [← hg1] at hg
        have HXG1 := Lib.hid hg1
        have G1 := Lib.hid hg
        have HV := Lib.hid hV41
        clear ha hg hV41 hg1
        clear HB R0 HRL RM
        have HB := nHB
        have R0 := nR0
        have HRL := nHRL
        have RM := nRM
        clear nHB nR0 nHRL nRM
        have u1 : (2 : Int) ≤ (c6 : Int) := by omega
        have u2 : (2 : Int) ≤ (k : Int) + 2 := by omega
        go_wp2_with fail
        rw [← HV.out]
        (try rw [← HXG1.out])
        clear HV HXG1
        refine (C3.out (some ⟨g6, 0, none⟩) c6 _ HB.out (by omega) bd2 HRL.out).mono ?_
        rintro e w42 ⟨⟨AB, cB, AC, cC, rfl, -, -, -, -, -, -⟩, hb⟩
        have nHB := Lib.hid (belG HB.out hb HB.out.size)
        have nR0 := Lib.hid ((R0.out.below hb (Nat.le_refl _)).more hb.size)
        have nHRL := Lib.hid ((HRL.out.below hb (Nat.le_refl _)).more hb.size)
        have nRM := Lib.hid ((RM.out.below hb (Nat.le_refl _)).more hb.size)
        have nG1 := Lib.hid (oldG G1.out hb (Nat.le_refl _))
        clear hb
        clear HB R0 HRL RM G1
        have HB := nHB
        have R0 := nR0
        have HRL := nHRL
        have RM := nRM
        have G1 := nG1
        clear nHB nR0 nHRL nRM nG1
        obtain ⟨V42, hV42⟩ : ∃ V, V = w42.alloc (.cells #[.slice AB 0 cB, .int .i64 (k : Nat), .int .i64 1] 24) := ⟨_, rfl⟩
        have ha := (Below.refl w42.heap.size w42).alloc (Nat.le_refl _) (.cells #[.slice AB 0 cB, .int .i64 (k : Nat), .int .i64 1] 24)
        have hg := heap_alloc_new w42 (.cells #[.slice AB 0 cB, .int .i64 (k : Nat), .int .i64 1] 24)
        have nHB := Lib.hid (HB.out.alloc HB.out.size (.cells #[.slice AB 0 cB, .int .i64 (k : Nat), .int .i64 1] 24))
        rw [← hV42] at ha hg nHB
        have nR0 := Lib.hid ((R0.out.below ha (Nat.le_refl _)).more ha.size)
        have nHRL := Lib.hid ((HRL.out.below ha (Nat.le_refl _)).more ha.size)
        have nRM := Lib.hid ((RM.out.below ha (Nat.le_refl _)).more ha.size)
        have nG1 := Lib.hid (oldG G1.out ha (Nat.le_refl _))
        obtain ⟨g2, hg2⟩ : ∃ g, g = w42.heap.size := ⟨_, rfl⟩
        rw [← hg2] at hg
        have HXG2 := Lib.hid hg2
        have G2 := Lib.hid hg
        have HV := Lib.hid hV42
        clear ha hg hV42 hg2
        clear HB R0 HRL RM G1
        have HB := nHB
        have R0 := nR0
        have HRL := nHRL
        have RM := nRM
        have G1 := nG1
        clear nHB nR0 nHRL nRM nG1
        obtain ⟨g1x, g1y, g1z⟩ := cG3 G1.out
        rw [HV.out] at g1x g1y g1z
        obtain ⟨g2x, g2y, g2z⟩ := cG3 G2.out
        rw [HV.out] at g2x g2y g2z
        rw [HXG2.out] at g2x g2y g2z
        obtain ⟨b9, o9, rfl, hb9, hrow9⟩ := RM.out (by simp)
        obtain ⟨AA, cA, hcell, -, -, hrA⟩ := hrow9 0 (by simp)
        simp only [List.getElem_cons_zero, Nat.add_zero] at hcell hrA
        rw [← HM.out, HV.out] at hcell
        have RA := Lib.hid hrA
        have hkb : ((k : Int) == (k : Int)) = true := by simp
        clear hrA hrow9 hb9
        go_wp2_with fail
        clear g1x g1y g1z g2x g2y g2z
        clear hcell
        rw [← HV.out]
        (try rw [← HXG2.out])
        clear HV HXG2
        refine (SB.out AA cA _ HB.out RA.out R0.out).mono ?_
        rintro e w43 ⟨rfl, rfl⟩
        obtain ⟨g1x, g1y, g1z⟩ := cG3 G1.out
        obtain ⟨g2x, g2y, g2z⟩ := cG3 G2.out
        go_wp2_with fail
        go_ret
        exact ⟨by first | rfl | simp, HB.out⟩
  case neg =>
    have j5 : (1 : Int) ≤ (tn : Int) := by omega
    have j6 : ¬ (tn : Int) ≤ 1024 := by omega
    clear h3 h4 hz
    have HB := Lib.hid (Below.refl W.heap.size W)
    go_enter Try.func8, Try.ntmps8
    go_wp2_with fail
    refine (shown8_any _).mono ?_
    rintro e w1 ⟨rfl, hb⟩
    have nHB := Lib.hid (belG HB.out hb HB.out.size)
    have nR0 := Lib.hid ((R0.out.below hb (Nat.le_refl _)).more hb.size)
    clear hb
    clear HB R0
    have HB := nHB
    have R0 := nR0
    clear nHB nR0
    go_wp2_with fail
    refine (C1.out _ HB.out R0.out).mono ?_
    rintro e w2 ⟨⟨A1, c1, rfl, p1, p2, h1⟩, hb⟩
    have nHB := Lib.hid (belG HB.out hb HB.out.size)
    have nR0 := Lib.hid ((R0.out.below hb (Nat.le_refl _)).more hb.size)
    clear hb
    clear HB R0
    have HB := nHB
    have R0 := nR0
    clear nHB nR0
    have R1 := Lib.hid h1
    clear h1
    have HM2 := Lib.hid (show Ow (w2.alloc (.cells #[.int .u8 (q.toNat : Int), .int .u8 (r.toNat : Int)] 5)) w2.heap.size (.slice (some ⟨w2.heap.size, 0, none⟩) 2 2) [q, r] from Ow.madeL w2 (Nat.le_refl _) [q, r] (by simp))
    have HB_0 := HB
    have R0_0 := R0
    go_wp2
    go_loopw [10, 11] (fun va i wr => ∃ k : Nat, k ≤ tn ∧ i = .int .i64 k ∧ Hid (Ow wr w2.heap.size va ([q, r] ++ List.replicate k x)) ∧ Hid (Below w2.heap.size w2 wr)) (fun _ i _ => tn - (intOf i).toNat)
    case atStart => exact ⟨0, Nat.zero_le _, rfl, Lib.hid (by simpa using HM2.out), Lib.hid ((Below.refl _ _).alloc (Nat.le_refl _) _)⟩
    case round =>
      obtain ⟨k, hk, rfl, HO, HBV⟩ := hrel
      by_cases hlt : k < tn
      · have hki : (k : Int) < (tn : Int) := by omega
        have hk0 : (0 : Int) ≤ (k : Int) := Int.natCast_nonneg _
        have HRP := Lib.hid (show ([q, r] ++ List.replicate k x) ++ [x] = [q, r] ++ List.replicate (k + 1) x by rw [List.append_assoc, ← List.replicate_succ'])
        have HLN := Lib.hid (show ([q, r] ++ List.replicate k x).length ≤ 10000 by have := HTN.out; simp; omega)
        obtain ⟨L, hL⟩ : ∃ L, L = [q, r] ++ List.replicate k x := ⟨_, rfl⟩
        rw [← hL] at HO HRP HLN
        clear hL
        go_wp2_with (at_builtin; refine wpList_appS _ rfl (.tmp 56) (.tmp 58) rfl w2.heap.size _ L [x] rfl (by exact HO.out.alloc _) (some ⟨wr.heap.size, 0, none⟩) 1 1 (wr.alloc (.cells #[.int .u8 (x.toNat : Int)] 5)).heap.size rfl rfl (by exact (Ow.made1 wr (Nat.le_refl _) x).rdG) (by have := HLN.out; show L.length + 1 ≤ _; omega) (by exact le_alloc HBV.out.size _) ?_; intro v6 wb hown6 hgrow6; have hb6 := Ow.below (w0 := w2) (by exact HO.out.alloc _) (by exact HBV.out.alloc HBV.out.size _) hgrow6 (by exact le_alloc HBV.out.size _); rw [HRP.out] at hown6; have HO6 := Lib.hid hown6; have HB6 := Lib.hid hb6; clear hown6 hgrow6 hb6)
        go_roundw
        case rel => exact ⟨k + 1, by omega, by go_num, HO6, HB6⟩
        case measure => simp [intOf]; omega
      · have hki : ¬ (k : Int) < (tn : Int) := by omega
        have hkn : k = tn := by omega
        subst hkn
        obtain ⟨g6, c6, e6, -, -⟩ := World.ownsRow.form HO.out (by simp)
        have hln : ([q, r] ++ List.replicate k x).length = k + 2 := by rw [List.length_append, List.length_replicate]; show 2 + k = k + 2; omega
        rw [hln] at e6
        subst e6
        have HLN := Lib.hid hln
        obtain ⟨L, hL⟩ : ∃ L, L = [q, r] ++ List.replicate k x := ⟨_, rfl⟩
        rw [← hL] at HO HLN C2 C3
        clear hL hln
        have HBW := Lib.hid (belG HB.out HBV.out HB.out.size)
        have R0w := Lib.hid (R0.out.go HBV.out)
        have R1w := Lib.hid (R1.out.go HBV.out)
        obtain ⟨-, bd1, bd2, -, -⟩ := Ow.bdG HO.out
        rw [HLN.out] at bd1
        clear HB R0 R1 p1 p2
        go_wp2_with (at_builtin; refine wpList_appSK _ rfl (.tmp 62) (.tmp 63) rfl w2.heap.size g6 (k + 2) c6 L O rfl HO.out A1 (m + 2) c1 wr.heap.size rfl HPL.out.symm (by exact R1w.out) (by rw [HPL.out]; omega) (by rw [HLN.out, HPL.out]; have := HTN.out; have := HBL.out; omega) HBV.out.size ?_; intro v7 w7 hown7 hgrow7 hrd7; have hb7 := Ow.below (w0 := w2) HO.out HBV.out hgrow7 HBV.out.size; have HB7 := Lib.hid hb7; have HRL := Lib.hid hrd7; obtain ⟨A7, c7, e7, k1, k2, k3⟩ := hown7.form; rw [List.length_append, HLN.out, HPL.out] at e7 k1; subst e7; have K1 := Lib.hid k1; have K2 := Lib.hid k2; have K3 := Lib.hid k3; clear hown7 hgrow7 hrd7 hb7 k1 k2 k3)
        have HB := Lib.hid (belG HB_0.out HB7.out HB_0.out.size)
        have R0 := Lib.hid (R0_0.out.go HB7.out)
        clear HBW R0w R1w HB_0 R0_0
        refine (C2.out A7 c7 _ HB.out K1.out K2.out K3.out).mono ?_
        rintro e w41 ⟨⟨A8, c8, A9, c9, rfl, -, -, -, -, -, h9⟩, hb⟩
        have nHB := Lib.hid (belG HB.out hb HB.out.size)
        have nR0 := Lib.hid ((R0.out.below hb (Nat.le_refl _)).more hb.size)
        have nHRL := Lib.hid ((HRL.out.below hb (Nat.le_refl _)).more hb.size)
        clear hb
        clear HB R0 HRL
        have HB := nHB
        have R0 := nR0
        have HRL := nHRL
        clear nHB nR0 nHRL
        have RM := Lib.hid h9
        clear h9
        obtain ⟨V41, hV41⟩ : ∃ V, V = w41.alloc (.cells #[.slice A8 0 c8, .int .i64 0, .int .i64 1] 24) := ⟨_, rfl⟩
        have ha := (Below.refl w41.heap.size w41).alloc (Nat.le_refl _) (.cells #[.slice A8 0 c8, .int .i64 0, .int .i64 1] 24)
        have hg := heap_alloc_new w41 (.cells #[.slice A8 0 c8, .int .i64 0, .int .i64 1] 24)
        have nHB := Lib.hid (HB.out.alloc HB.out.size (.cells #[.slice A8 0 c8, .int .i64 0, .int .i64 1] 24))
        rw [← hV41] at ha hg nHB
        have nR0 := Lib.hid ((R0.out.below ha (Nat.le_refl _)).more ha.size)
        have nHRL := Lib.hid ((HRL.out.below ha (Nat.le_refl _)).more ha.size)
        have nRM := Lib.hid ((RM.out.below ha (Nat.le_refl _)).more ha.size)
        obtain ⟨g1, hg1⟩ : ∃ g, g = w41.heap.size := ⟨_, rfl⟩
        rw [← hg1] at hg
        have HXG1 := Lib.hid hg1
        have G1 := Lib.hid hg
        have HV := Lib.hid hV41
        clear ha hg hV41 hg1
        clear HB R0 HRL RM
        have HB := nHB
        have R0 := nR0
        have HRL := nHRL
        have RM := nRM
        clear nHB nR0 nHRL nRM
        have u1 : (2 : Int) ≤ (c6 : Int) := by omega
        have u2 : (2 : Int) ≤ (k : Int) + 2 := by omega
        go_wp2_with fail
        rw [← HV.out]
        (try rw [← HXG1.out])
        clear HV HXG1
        refine (C3.out (some ⟨g6, 0, none⟩) c6 _ HB.out (by omega) bd2 HRL.out).mono ?_
        rintro e w42 ⟨⟨AB, cB, AC, cC, rfl, -, -, -, -, -, -⟩, hb⟩
        have nHB := Lib.hid (belG HB.out hb HB.out.size)
        have nR0 := Lib.hid ((R0.out.below hb (Nat.le_refl _)).more hb.size)
        have nHRL := Lib.hid ((HRL.out.below hb (Nat.le_refl _)).more hb.size)
        have nRM := Lib.hid ((RM.out.below hb (Nat.le_refl _)).more hb.size)
        have nG1 := Lib.hid (oldG G1.out hb (Nat.le_refl _))
        clear hb
        clear HB R0 HRL RM G1
        have HB := nHB
        have R0 := nR0
        have HRL := nHRL
        have RM := nRM
        have G1 := nG1
        clear nHB nR0 nHRL nRM nG1
        obtain ⟨V42, hV42⟩ : ∃ V, V = w42.alloc (.cells #[.slice AB 0 cB, .int .i64 (k : Nat), .int .i64 1] 24) := ⟨_, rfl⟩
        have ha := (Below.refl w42.heap.size w42).alloc (Nat.le_refl _) (.cells #[.slice AB 0 cB, .int .i64 (k : Nat), .int .i64 1] 24)
        have hg := heap_alloc_new w42 (.cells #[.slice AB 0 cB, .int .i64 (k : Nat), .int .i64 1] 24)
        have nHB := Lib.hid (HB.out.alloc HB.out.size (.cells #[.slice AB 0 cB, .int .i64 (k : Nat), .int .i64 1] 24))
        rw [← hV42] at ha hg nHB
        have nR0 := Lib.hid ((R0.out.below ha (Nat.le_refl _)).more ha.size)
        have nHRL := Lib.hid ((HRL.out.below ha (Nat.le_refl _)).more ha.size)
        have nRM := Lib.hid ((RM.out.below ha (Nat.le_refl _)).more ha.size)
        have nG1 := Lib.hid (oldG G1.out ha (Nat.le_refl _))
        obtain ⟨g2, hg2⟩ : ∃ g, g = w42.heap.size := ⟨_, rfl⟩
        rw [← hg2] at hg
        have HXG2 := Lib.hid hg2
        have G2 := Lib.hid hg
        have HV := Lib.hid hV42
        clear ha hg hV42 hg2
        clear HB R0 HRL RM G1
        have HB := nHB
        have R0 := nR0
        have HRL := nHRL
        have RM := nRM
        have G1 := nG1
        clear nHB nR0 nHRL nRM nG1
        obtain ⟨g1x, g1y, g1z⟩ := cG3 G1.out
        rw [HV.out] at g1x g1y g1z
        obtain ⟨g2x, g2y, g2z⟩ := cG3 G2.out
        rw [HV.out] at g2x g2y g2z
        rw [HXG2.out] at g2x g2y g2z
        obtain ⟨b9, o9, rfl, hb9, hrow9⟩ := RM.out (by simp)
        obtain ⟨AA, cA, hcell, -, -, hrA⟩ := hrow9 0 (by simp)
        simp only [List.getElem_cons_zero, Nat.add_zero] at hcell hrA
        rw [← HM.out, HV.out] at hcell
        have RA := Lib.hid hrA
        have hkb : ((k : Int) == (k : Int)) = true := by simp
        clear hrA hrow9 hb9
        go_wp2_with fail
        clear g1x g1y g1z g2x g2y g2z
        clear hcell
        rw [← HV.out]
        (try rw [← HXG2.out])
        clear HV HXG2
        refine (SB.out AA cA _ HB.out RA.out R0.out).mono ?_
        rintro e w43 ⟨rfl, rfl⟩
        obtain ⟨g1x, g1y, g1z⟩ := cG3 G1.out
        obtain ⟨g2x, g2y, g2z⟩ := cG3 G2.out
        go_wp2_with fail
        go_ret
        exact ⟨by first | rfl | simp, HB.out⟩
end Go.Proofs.Ytcableacihkggaa
