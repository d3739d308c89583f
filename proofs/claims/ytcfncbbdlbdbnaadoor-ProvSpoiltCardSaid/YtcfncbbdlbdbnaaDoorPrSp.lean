
/- ProvSpoilt's walk. -/
import Derived.Test.YtcfncbbdlbdbnaaDoorPrQ
namespace Go.Proofs.YtcfncbbdlbdbnaaDoor
open Go.RowKit

set_option maxRecDepth 100000 in
set_option maxHeartbeats 40000000 in
theorem provSpoilt_walk (i f : Bool) (A : Option Addr) (l : List Pr) (c : Nat) (K : Option Addr) (k : List UInt8) (kc : Nat) (B : Option Addr) (b : List UInt8) (bc : Nat) (at_ y : UInt8) (W : World)
    (hc : l.length ≤ c) (hcm : c ≤ 9223372036854775807) (hT : Tab W W.heap.size A l) (hkc : k.length ≤ kc) (hkm : kc ≤ 9223372036854775807) (hk : Rd W W.heap.size K k) (hbc : b.length ≤ bc) (hbm : bc ≤ 9223372036854775807) (hb : Rd W W.heap.size B b) (hK : Ks W) :
    Calls Tryd.prog 7 #[.agg #[.bool i, .slice A l.length c, .bool f, .slice K k.length kc, .slice B b.length bc, .int .u8 (at_.toNat : Int), .int .u8 (y.toNat : Int)]] W fun e W' => e = .returned (.bool true) ∧ Below W.heap.size W W' := by
  have hf3 := fold3
  have RK := Lib.hid (fun w (h : Below W.heap.size W w) => (hk.below h (Nat.le_refl _)).more h.size)
  have RB := Lib.hid (fun w (h : Below W.heap.size W w) => (hb.below h (Nat.le_refl _)).more h.size)
  have RT := Lib.hid (fun w (h : Below W.heap.size W w) => (hT.below h (Nat.le_refl _)).more h.size)
  have KB := Lib.hid (fun w (h : Below W.heap.size W w) => Ks.call hK h)
  have CF1 := Lib.hid (fun w (h : Below W.heap.size W w) => few_any i f A l c w hc hcm (RT.out w h))
  obtain ⟨n, hn⟩ : ∃ n, n = l.length := ⟨_, rfl⟩
  obtain ⟨kn, hkn⟩ : ∃ n, n = k.length := ⟨_, rfl⟩
  obtain ⟨bn, hbn⟩ : ∃ n, n = b.length := ⟨_, rfl⟩
  have HN := Lib.hid hn
  have HKN := Lib.hid hkn
  have HBN := Lib.hid hbn
  have HKC := Lib.hid hkc
  have HBC := Lib.hid hbc
  have HCC := Lib.hid hc
  have HKM := Lib.hid hkm
  have HBM := Lib.hid hbm
  have HCM := Lib.hid hcm
  have i63 : kn ≤ 9223372036854775807 ∧ bn ≤ 9223372036854775807 := by omega
  obtain ⟨i631, i632⟩ := i63
  rw [← hn] at CF1 ⊢
  rw [← hkn, ← hbn]
  clear hk hb hT hK hn hkn hbn hkc hkm hbc hbm hc hcm
  obtain ⟨-, q2, -, q5⟩ := alloc2 W (.cells #[.bool i, .slice A n c, .bool f, .slice K kn kc, .slice B bn bc, .int .u8 (at_.toNat : Int), .int .u8 (y.toNat : Int)] 52) (.cells (pcs i A n c f) 24)
  have Q2 := Lib.hid q2
  have Q5 := Lib.hid q5
  clear q2 q5
  by_cases h1 : 60 < kn
  · have ih1 : (60 : Int) < (kn : Int) := by omega
    go_enter Tryd.func7, Tryd.ntmps7
    go_wp2_with fail
    refine (shown4_any _ (KB.out _ Q5.out)).mono ?_
    rintro e w1 ⟨rfl, hb1⟩
    have BW1 := Lib.hid (bel_call Q5.out hb1 Q5.out.size)
    have P1 := Lib.hid (old_below Q2.out hb1 (Nat.le_refl _))
    obtain ⟨x0, x1, x2⟩ := cells3 P1.out
    clear hb1 Q2 Q5
    go_wp2_with fail
    refine (CF1.out _ BW1.out).mono ?_
    rintro e w3 ⟨⟨r, rfl, hr⟩, hb3⟩
    have BW := Lib.hid (bel_call BW1.out hb3 BW1.out.size)
    have P3 := Lib.hid (old_below P1.out hb3 (Nat.le_refl _))
    have HR := Lib.hid hr
    clear hb3 hr x0 x1 x2 BW1 P1
    cases r
    · go_wp2_with fail
      go_ret
      exact ⟨rfl, BW.out⟩
    go_wp2_with fail
    go_ret
    exact ⟨rfl, BW.out⟩
  have ih1 : ¬ (60 : Int) < (kn : Int) := by omega
  by_cases h2 : 60 < bn
  · have ih2 : (60 : Int) < (bn : Int) := by omega
    go_enter Tryd.func7, Tryd.ntmps7
    go_wp2_with fail
    refine (shown4_any _ (KB.out _ Q5.out)).mono ?_
    rintro e w1 ⟨rfl, hb1⟩
    have BW1 := Lib.hid (bel_call Q5.out hb1 Q5.out.size)
    have P1 := Lib.hid (old_below Q2.out hb1 (Nat.le_refl _))
    obtain ⟨x0, x1, x2⟩ := cells3 P1.out
    clear hb1 Q2 Q5
    go_wp2_with fail
    refine (CF1.out _ BW1.out).mono ?_
    rintro e w3 ⟨⟨r, rfl, hr⟩, hb3⟩
    have BW := Lib.hid (bel_call BW1.out hb3 BW1.out.size)
    have P3 := Lib.hid (old_below P1.out hb3 (Nat.le_refl _))
    have HR := Lib.hid hr
    clear hb3 hr x0 x1 x2 BW1 P1
    cases r
    · go_wp2_with fail
      go_ret
      exact ⟨rfl, BW.out⟩
    go_wp2_with fail
    go_ret
    exact ⟨rfl, BW.out⟩
  have ih2 : ¬ (60 : Int) < (bn : Int) := by omega
  by_cases h3 : y = 0
  · have ih3 : (y.toNat : Int) = 0 := by rw [h3]; rfl
    rw [ih3] at Q2 Q5 ⊢
    clear ih3 h3
    go_enter Tryd.func7, Tryd.ntmps7
    go_wp2_with fail
    refine (shown4_any _ (KB.out _ Q5.out)).mono ?_
    rintro e w1 ⟨rfl, hb1⟩
    have BW1 := Lib.hid (bel_call Q5.out hb1 Q5.out.size)
    have P1 := Lib.hid (old_below Q2.out hb1 (Nat.le_refl _))
    obtain ⟨x0, x1, x2⟩ := cells3 P1.out
    clear hb1 Q2 Q5
    go_wp2_with fail
    refine (CF1.out _ BW1.out).mono ?_
    rintro e w3 ⟨⟨r, rfl, hr⟩, hb3⟩
    have BW := Lib.hid (bel_call BW1.out hb3 BW1.out.size)
    have P3 := Lib.hid (old_below P1.out hb3 (Nat.le_refl _))
    have HR := Lib.hid hr
    clear hb3 hr x0 x1 x2 BW1 P1
    cases r
    · go_wp2_with fail
      go_ret
      exact ⟨rfl, BW.out⟩
    go_wp2_with fail
    go_ret
    exact ⟨rfl, BW.out⟩
  have ih3 : ((y.toNat : Int) == 0) = false := beq_eq_false_iff_ne.2 (fun h => h3 (UInt8.toNat_inj.1 (by show y.toNat = 0; omega)))
  have ih4 : ¬ (y.toNat : Int) = 0 := fun h => h3 (UInt8.toNat_inj.1 (by show y.toNat = 0; omega))
  go_enter Tryd.func7, Tryd.ntmps7
  go_wp2_with fail
  refine (shown4_any _ (KB.out _ Q5.out)).mono ?_
  rintro e w1 ⟨rfl, hb1⟩
  have BW1 := Lib.hid (bel_call Q5.out hb1 Q5.out.size)
  have P1 := Lib.hid (old_below Q2.out hb1 (Nat.le_refl _))
  obtain ⟨x0, x1, x2⟩ := cells3 P1.out
  clear hb1 Q2 Q5
  go_wp2_with fail
  refine (CF1.out _ BW1.out).mono ?_
  rintro e w3 ⟨⟨r, rfl, hr⟩, hb3⟩
  have BW := Lib.hid (bel_call BW1.out hb3 BW1.out.size)
  have P3 := Lib.hid (old_below P1.out hb3 (Nat.le_refl _))
  have HR := Lib.hid hr
  clear hb3 hr x0 x1 x2 BW1 P1
  cases r
  · go_wp2_with fail
    go_ret
    exact ⟨rfl, BW.out⟩
  have hfew := HR.out (by simp)
  have hl20 : l.length ≤ 1000 := by have := hfew.1; omega
  have hk60 : k.length ≤ 60 := by have := HKN.out; omega
  have hb60 : b.length ≤ 60 := by have := HBN.out; omega
  obtain ⟨L1, hL1⟩ : ∃ L, L = tabF l k b := ⟨_, rfl⟩
  obtain ⟨N1, hN1⟩ : ∃ n, n = L1.length := ⟨_, rfl⟩
  have HN1 := Lib.hid hN1
  have hl1 : L1.length ≤ 1000 := by
    have := hfew.1
    rw [hL1]; unfold tabF
    split
    · omega
    · rw [List.length_append]; simp only [List.length_cons, List.length_nil]; omega
  have CT := Lib.hid (fun w (h : Below W.heap.size W w) => show Calls Tryd.prog 11 #[.agg #[.bool i, .slice A n c, .bool f], .slice K kn kc, .slice B bn bc] w fun e w' => AnsPT w' e i L1 f (cutF k b) ∧ Below w.heap.size w w' from by
    rw [HN.out, HKN.out, HBN.out, hL1]
    exact ptag_any i f A l c K B k b kc bc w HCC.out HCM.out hl20 (by omega) (by omega) HKC.out HKM.out HBC.out HBM.out (RT.out w h) (RK.out w h) (RB.out w h) (KB.out w h))
  have CS := Lib.hid (fun A1 c1 T t tn tc w (htn : tn = t.length) (htl : t.length ≤ 100) (hne : ¬ t = cutF k b) (hT1 : Tab w w.heap.size A1 L1) (hR1 : Rd w w.heap.size T t) (h : Below W.heap.size W w) => spoilt_any i f A1 L1 c1 K B T k b t N1 kn bn tn kc bc tc w HN1.out HKN.out HBN.out htn hl1 (by omega) (by omega) (by omega) HKC.out HKM.out HBC.out HBM.out hne hT1 (RK.out w h) (RB.out w h) hR1 (KB.out w h))
  have SM := Lib.hid (fun A1 A2 c1 c2 w (h1 : Tab w w.heap.size A1 L1) (h2 : Tab w w.heap.size A2 L1) => show Calls Tryd.prog 15 #[.agg #[.bool i, .slice A1 N1 c1, .bool f], .agg #[.bool i, .slice A2 N1 c2, .bool f]] w fun e w' => e = .returned (.bool true) ∧ Below w.heap.size w w' from by
    have h := rsame_any i f i f A1 A2 L1 L1 c1 c2 w hl1 hl1 h1 h2
    rw [show (i == i && f == f && decide (L1 = L1)) = true by simp, ← HN1.out] at h
    exact h)
  have hU := cutF_length k b
  clear hN1 hL1 hfew hl20 hk60 hb60 HR hl1 CF1 RT
  generalize cutF k b = U at *
  clear HKN HBN HKC HBC HCC HKM HBM HCM HN
  obtain ⟨ix, hix⟩ : ∃ x, x = at_.toNat % 16 := ⟨_, rfl⟩
  have hix16 : ix < 16 := by omega
  have j1 : (at_.toNat : Int).tmod 16 = (ix : Int) := by rw [Int.tmod_eq_emod_of_nonneg (by omega)]; omega
  have j2 : (at_.toNat : Int) % 16 = (ix : Int) := by omega
  have j3 : (ix : Int) < 16 := by omega
  have j4 : (0 : Int) ≤ (ix : Int) := Int.natCast_nonneg _
  have j5 : (at_.toNat : Int) ≤ 255 := by have := at_.toNat_lt; omega
  have j6 : (0 : Int) ≤ (at_.toNat : Int) := Int.natCast_nonneg _
  have HU := Lib.hid hU
  have HIX := Lib.hid (show ix < U.length by omega)
  obtain ⟨z, hz⟩ : ∃ z, z = U[ix]'HIX.out := ⟨_, rfl⟩
  have HZZ := Lib.hid hz
  have HX := Lib.hid (sp_set U ix HIX.out y h3)
  rw [← hz] at HX
  obtain ⟨V0, hV0⟩ : ∃ x, x = w3 := ⟨_, rfl⟩
  obtain ⟨g0, hg0⟩ : ∃ x, x = W.heap.size + 1 := ⟨_, rfl⟩
  rw [← hg0, ← hV0]
  rw [← hV0] at P3 BW
  rw [← hg0] at P3
  clear hV0 hg0 hU hix hz
  obtain ⟨x0, x1, x2⟩ := cells3 P3.out
  go_wp2_with fail
  clear x0 x1 x2
  with_reducible refine (CT.out _ BW.out).mono ?_
  rintro e w1 ⟨⟨n1, A1, c1, T1, tc1, rfl, hn1, h11, h12, h13, h14, h15, h16⟩, hb⟩
  have h9 : N1 = n1 := HN1.out.trans hn1.symm
  clear hn1
  subst h9
  obtain ⟨g1, hg1⟩ : ∃ g, g = w1.heap.size := ⟨_, rfl⟩
  obtain ⟨V1, hV1⟩ : ∃ V, V = w1.alloc (.cells (pcs i A1 N1 c1 f) 24) := ⟨_, rfl⟩
  have p1 := heap_alloc_new w1 (.cells (pcs i A1 N1 c1 f) 24)
  have b0 := (Below.refl w1.heap.size w1).alloc (Nat.le_refl _) (.cells (pcs i A1 N1 c1 f) 24)
  have b1 := bel_call hb b0 hb.size
  rw [← hV1] at p1 b0 b1
  rw [← hg1] at p1
  have nP3 := Lib.hid (old_below P3.out b1 (Nat.le_refl _))
  have nBW := Lib.hid (bel_call BW.out b1 BW.out.size)
  have t1 := (h15.below b0 (Nat.le_refl _)).more b0.size
  have u1 := (h16.below b0 (Nat.le_refl _)).more b0.size
  have RT1 := Lib.hid (fun w (h : Below V1.heap.size V1 w) => (t1.below h (Nat.le_refl _)).more h.size)
  have RX1 := Lib.hid (fun w (h : Below V1.heap.size V1 w) => (u1.below h (Nat.le_refl _)).more h.size)
  clear t1 u1 h15 h16
  clear P3 BW hb b0 b1
  have P3 := nP3
  have BW := nBW
  have G1 := Lib.hid p1
  have HV1 := Lib.hid hV1
  have HG1 := Lib.hid hg1
  have HZ1 := Lib.hid (show V1.heap.size = w1.heap.size + 1 by rw [hV1, World.size_alloc])
  clear nP3 nBW p1 hV1 hg1
  have B1 := Lib.hid (Below.refl V1.heap.size V1)
  have HZ1v := Lib.hid (show V1.heap.size = V1.heap.size from rfl)
  go_wp2_with (at_builtin; rw [← HV1.out]; (try rw [← HZ1.out]); (try rw [← HG1.out]); refine wpList_appS (V1.alloc (.cells #[] 5)) rfl (.tmp 61) (.tmp 62) rfl V1.heap.size _ [] U rfl (by exact Ow.made0 V1 (Nat.le_refl _)) T1 16 tc1 _ rfl HU.out.symm (by exact RX1.out _ ((Below.refl V1.heap.size V1).alloc (Nat.le_refl _) _)) (by simp only [List.length_nil]; have := HU.out; omega) (by exact le_alloc (Nat.le_refl _) _) ?_; intro v5 w5 hown5 hgrow5; have HB5 := Lib.hid (Ow.below (w0 := V1) (by exact Ow.made0 V1 (Nat.le_refl _)) (by exact (Below.refl V1.heap.size V1).alloc (Nat.le_refl _) _) hgrow5 (by exact le_alloc (Nat.le_refl _) _)); rw [List.nil_append] at hown5; obtain ⟨g, c5, e5, hg5, -⟩ := World.ownsRow.form hown5 (by have := HU.out; omega); rw [HU.out] at e5; subst e5; have HO5 := Lib.hid hown5; have k1 := World.ownsRow.cells hown5 (g := g) rfl ix _ (cs_get U ix HIX.out); rw [Addr.add_lit, Nat.zero_add, ← HZZ.out] at k1; have k2 := sp_frozen hown5 ix; have HGB := Lib.hid hg5; have hp := old_below G1.out (HB5.out.setCell (p := ⟨g, ix, none⟩) hg5 (.int .u8 (bits .xor .u8 (z.toNat : Int) (y.toNat : Int)))) (Nat.le_refl _); obtain ⟨x0, x1, x2⟩ := cells3 hp; clear hown5 hgrow5 hg5 hp)
  have hs6 := HO5.out.setP ix (z ^^^ y)
  rw [← b_xor] at hs6
  have hb6 := HB5.out.setCell (p := ⟨g, ix, none⟩) HGB.out (.int .u8 (bits .xor .u8 (z.toNat : Int) (y.toNat : Int)))
  generalize w5.setCell ⟨g, ix, none⟩ (.int .u8 (bits .xor .u8 (z.toNat : Int) (y.toNat : Int))) = w6 at *
  have nG1 := Lib.hid (old_below G1.out hb6 (Nat.le_refl _))
  have nBW := Lib.hid (bel_call BW.out hb6 BW.out.size)
  have nB1 := Lib.hid hb6
  have hr6 : Rd w6 w6.heap.size (some ⟨g, 0, none⟩) (U.set ix (z ^^^ y)) := by
    obtain ⟨A', c', e', -, -, hr'⟩ := hs6.form
    injection e' with e1 e2 e3
    rw [e1]
    exact hr'
  have HR6 := Lib.hid hr6
  have HL6 := Lib.hid (show 16 = (U.set ix (z ^^^ y)).length by rw [List.length_set]; exact HU.out.symm)
  have HL7 := Lib.hid (show (U.set ix (z ^^^ y)).length ≤ 100 by have := HL6.out; omega)
  clear G1 BW B1 P3 hs6 hb6 hr6 x0 x1 x2 k1 k2 HB5 HO5
  have G1 := nG1
  have BW := nBW
  have B1 := nB1
  clear nG1 nBW nB1
  with_reducible refine (CS.out A1 c1 _ (U.set ix (z ^^^ y)) 16 c5 _ HL6.out HL7.out HX.out (RT1.out _ B1.out) HR6.out BW.out).mono ?_
  rintro e w2 ⟨rfl, hb⟩
  obtain ⟨g2, hg2⟩ : ∃ g, g = w2.heap.size := ⟨_, rfl⟩
  obtain ⟨V2, hV2⟩ : ∃ V, V = w2.alloc (.cells (pcs i A1 N1 c1 f) 24) := ⟨_, rfl⟩
  have p1 := heap_alloc_new w2 (.cells (pcs i A1 N1 c1 f) 24)
  have b0 := (Below.refl w2.heap.size w2).alloc (Nat.le_refl _) (.cells (pcs i A1 N1 c1 f) 24)
  have b1 := bel_call hb b0 hb.size
  rw [← hV2] at p1 b0 b1
  rw [← hg2] at p1
  have nG1 := Lib.hid (old_below G1.out b1 (Nat.le_refl _))
  have nBW := Lib.hid (bel_call BW.out b1 BW.out.size)
  have nB1 := Lib.hid (bel_call B1.out b1 B1.out.size)
  clear G1 BW B1 hb b0 b1
  have G1 := nG1
  have BW := nBW
  have B1 := nB1
  have G2 := Lib.hid p1
  have HV2 := Lib.hid hV2
  have HG2 := Lib.hid hg2
  have HZ2 := Lib.hid (show V2.heap.size = w2.heap.size + 1 by rw [hV2, World.size_alloc])
  clear nG1 nBW nB1 p1 hV2 hg2
  have HTR := Lib.hid (fun w (h : Below V1.heap.size V1 w) => sp_rd_take (RX1.out w h) ix (by have := HIX.out; omega))
  have HTL := Lib.hid (show ix = (U.take ix).length by rw [List.length_take]; have := HIX.out; omega)
  have HTM := Lib.hid (show (U.take ix).length ≤ 100 by have := HTL.out; omega)
  have HTN := Lib.hid (sp_take U ix HIX.out)
  have j7 : (ix : Int) ≤ (tc1 : Int) := by omega
  clear HR6 HL6 HL7 HX
  go_wp2_with fail
  rw [← HV2.out]
  (try rw [← HZ2.out])
  (try rw [← HG2.out])
  clear HV2
  have F1 := Lib.hid (fun w (h : Below V2.heap.size V2 w) => bel_call B1.out h B1.out.size)
  have FW := Lib.hid (fun w (h : Below V2.heap.size V2 w) => bel_call BW.out h BW.out.size)
  have BB0 := Lib.hid ((Below.refl V2.heap.size V2).drew)
  have BA := Lib.hid (((Below.refl V2.heap.size V2).alloc (Nat.le_refl _) (.cells #[.bool false, .slice none 0 0, .bool false] 24)).drew)
  have KEEP := Lib.hid (show ∀ w', Below V2.heap.size V2 w' → (Below V2.heap.size V2 w' ∧ w'.cell? ⟨g2, 0, none⟩ = some (.bool i) ∧ w'.cell? ⟨g2, 1, none⟩ = some (.slice A1 N1 c1) ∧ w'.cell? ⟨g2, 2, none⟩ = some (.bool f)) from fun w' h => by
    obtain ⟨a0, a1', a2'⟩ := cells3 (old_below G2.out h (Nat.le_refl _))
    exact ⟨h, a0, a1', a2'⟩)
  go_cut [15, 16] (fun v u wx => ∃ g, v = .pointer (some ⟨g, 0, none⟩) ∧ u = .bool false ∧ wx.heap[g]? = some (.cells (pcs i A1 N1 c1 f) 24 (0, 0)) ∧ V2.heap.size ≤ g ∧ Below V2.heap.size V2 wx)
  case first =>
    go_region_held3 (fun w' => Below V2.heap.size V2 w' ∧ w'.cell? ⟨g2, 0, none⟩ = some (.bool i) ∧ w'.cell? ⟨g2, 1, none⟩ = some (.slice A1 N1 c1) ∧ w'.cell? ⟨g2, 2, none⟩ = some (.bool f))
      (first | with_reducible exact KEEP.out _ BB0.out | with_reducible exact KEEP.out _ BA.out | with_reducible exact KEEP.out _ BB1.out | with_reducible exact KEEP.out _ (BB1.out.alloc hs1 _) | exact KEEP.out _ (Below.set3 BB1.out (Nat.le_refl _) _ _ _))
      (first
      | (go_at_call 13; (with_reducible refine (CS.out A1 c1 _ (U.take ix) ix tc1 _ HTL.out HTM.out HTN.out ?_ ?_ ?_).mono ?_); (first | with_reducible exact RT1.out _ (F1.out _ BB0.out) | with_reducible exact RT1.out _ (F1.out _ BA.out)); (first | with_reducible exact HTR.out _ (F1.out _ BB0.out) | with_reducible exact HTR.out _ (F1.out _ BA.out)); (first | with_reducible exact FW.out _ BB0.out | with_reducible exact FW.out _ BA.out); rintro e ww1 ⟨rfl, hb⟩; have BB1 := Lib.hid (by first | with_reducible exact bel_call BB0.out hb BB0.out.size | with_reducible exact bel_call BA.out hb BA.out.size); have hs1 : V2.heap.size ≤ ww1.heap.size := BB1.out.size; (first | (have hz := old_below (g := V2.heap.size) (by exact heap_alloc_new V2 (.cells #[.bool false, .slice none 0 0, .bool false] 24)) hb (Nat.le_refl _); have ZZ1 := Lib.hid hz; obtain ⟨z0, z1, z2⟩ := cells3 hz; obtain ⟨y0, y1, y2⟩ := frozen3 hz; clear hz) | skip); clear hb))
    all_goals
      go_wp2_with fail
      go_meet
      case rel => first
        | (refine ⟨ww1.heap.size, by with_reducible rfl, by with_reducible rfl, heap_alloc_new ww1 _, hs1, BB1.out.alloc hs1 _⟩)
        | (refine ⟨V2.heap.size, by with_reducible rfl, by with_reducible rfl, set3_same (.bool i) (.slice A1 N1 c1) (.bool f) ZZ1.out, (Nat.le_refl _), Below.set3 BB1.out (Nat.le_refl _) (.bool i) (.slice A1 N1 c1) (.bool f)⟩)
  case rest =>
  obtain ⟨g3, rfl, rfl, hg, hgl, hB⟩ := hcut
  obtain ⟨V3, hV3⟩ : ∃ x, x = wc := ⟨_, rfl⟩
  rw [← hV3] at hg hB
  rw [← hV3]
  have nG1 := Lib.hid (old_below G1.out hB (Nat.le_refl _))
  have nBW := Lib.hid (bel_call BW.out hB BW.out.size)
  have nB1 := Lib.hid (bel_call B1.out hB B1.out.size)
  have G3 := Lib.hid hg
  clear hV3 hg hgl hB BB0 BA KEEP F1 FW G1 G2 BW B1 HTR HTL HTM HTN HZZ HIX HGB j1 j2 j3 j4 j5 j6 j7
  have G1 := nG1
  have BW := nBW
  have B1 := nB1
  clear nG1 nBW nB1
  have HM1 := Lib.hid (show 17 = (U ++ [y]).length by rw [List.length_append, HU.out]; rfl)
  have HM2 := Lib.hid (show (U ++ [y]).length ≤ 100 by have := HM1.out; omega)
  have HM3 := Lib.hid (sp_more U y)
  have F1 := Lib.hid (fun w (h : Below V3.heap.size V3 w) => bel_call B1.out h B1.out.size)
  have FW := Lib.hid (fun w (h : Below V3.heap.size V3 w) => bel_call BW.out h BW.out.size)
  have BB0 := Lib.hid ((Below.refl V3.heap.size V3).drew)
  have BBE := Lib.hid (((Below.refl V3.heap.size V3).alloc (Nat.le_refl _) (.cells #[] 5)).drew)
  have HE_E := Lib.hid (show (V3.alloc (.cells #[] 5)).drew.heap[V3.heap.size]? = some (.cells #[] 5) from by
    have h := heap_alloc_new V3 (.cells #[] 5)
    exact h)
  have BBY := Lib.hid (((Below.refl V3.heap.size V3).alloc (Nat.le_refl _) (.cells #[.int .u8 (y.toNat : Int)] 5)).drew)
  have HY_Y := Lib.hid (show (V3.alloc (.cells #[.int .u8 (y.toNat : Int)] 5)).drew.heap[V3.heap.size]? = some (.cells #[.int .u8 (y.toNat : Int)] 5) from by
    have h := heap_alloc_new V3 (.cells #[.int .u8 (y.toNat : Int)] 5)
    exact h)
  have BBZ := Lib.hid (((Below.refl V3.heap.size V3).alloc (Nat.le_refl _) (.cells #[.bool false, .slice none 0 0, .bool false] 24)).drew)
  have HZ_Z := Lib.hid (show (V3.alloc (.cells #[.bool false, .slice none 0 0, .bool false] 24)).drew.heap[V3.heap.size]? = some (.cells #[.bool false, .slice none 0 0, .bool false] 24) from by
    have h := heap_alloc_new V3 (.cells #[.bool false, .slice none 0 0, .bool false] 24)
    exact h)
  have BBEY := Lib.hid ((((Below.refl V3.heap.size V3).alloc (Nat.le_refl _) (.cells #[] 5)).alloc (le_alloc (Nat.le_refl _) _) (.cells #[.int .u8 (y.toNat : Int)] 5)).drew)
  have HE_EY := Lib.hid (show ((V3.alloc (.cells #[] 5)).alloc (.cells #[.int .u8 (y.toNat : Int)] 5)).drew.heap[V3.heap.size]? = some (.cells #[] 5) from by
    have h := heap_alloc_new V3 (.cells #[] 5)
    exact (Obj.old h _))
  have HY_EY := Lib.hid (show ((V3.alloc (.cells #[] 5)).alloc (.cells #[.int .u8 (y.toNat : Int)] 5)).drew.heap[V3.heap.size + 1]? = some (.cells #[.int .u8 (y.toNat : Int)] 5) from by
    have h := heap_alloc_new (V3.alloc (.cells #[] 5)) (.cells #[.int .u8 (y.toNat : Int)] 5)
    rw [World.size_alloc] at h
    exact h)
  have BBEZ := Lib.hid ((((Below.refl V3.heap.size V3).alloc (Nat.le_refl _) (.cells #[] 5)).alloc (le_alloc (Nat.le_refl _) _) (.cells #[.bool false, .slice none 0 0, .bool false] 24)).drew)
  have HE_EZ := Lib.hid (show ((V3.alloc (.cells #[] 5)).alloc (.cells #[.bool false, .slice none 0 0, .bool false] 24)).drew.heap[V3.heap.size]? = some (.cells #[] 5) from by
    have h := heap_alloc_new V3 (.cells #[] 5)
    exact (Obj.old h _))
  have HZ_EZ := Lib.hid (show ((V3.alloc (.cells #[] 5)).alloc (.cells #[.bool false, .slice none 0 0, .bool false] 24)).drew.heap[V3.heap.size + 1]? = some (.cells #[.bool false, .slice none 0 0, .bool false] 24) from by
    have h := heap_alloc_new (V3.alloc (.cells #[] 5)) (.cells #[.bool false, .slice none 0 0, .bool false] 24)
    rw [World.size_alloc] at h
    exact h)
  have BBYE := Lib.hid ((((Below.refl V3.heap.size V3).alloc (Nat.le_refl _) (.cells #[.int .u8 (y.toNat : Int)] 5)).alloc (le_alloc (Nat.le_refl _) _) (.cells #[] 5)).drew)
  have HY_YE := Lib.hid (show ((V3.alloc (.cells #[.int .u8 (y.toNat : Int)] 5)).alloc (.cells #[] 5)).drew.heap[V3.heap.size]? = some (.cells #[.int .u8 (y.toNat : Int)] 5) from by
    have h := heap_alloc_new V3 (.cells #[.int .u8 (y.toNat : Int)] 5)
    exact (Obj.old h _))
  have HE_YE := Lib.hid (show ((V3.alloc (.cells #[.int .u8 (y.toNat : Int)] 5)).alloc (.cells #[] 5)).drew.heap[V3.heap.size + 1]? = some (.cells #[] 5) from by
    have h := heap_alloc_new (V3.alloc (.cells #[.int .u8 (y.toNat : Int)] 5)) (.cells #[] 5)
    rw [World.size_alloc] at h
    exact h)
  have BBYZ := Lib.hid ((((Below.refl V3.heap.size V3).alloc (Nat.le_refl _) (.cells #[.int .u8 (y.toNat : Int)] 5)).alloc (le_alloc (Nat.le_refl _) _) (.cells #[.bool false, .slice none 0 0, .bool false] 24)).drew)
  have HY_YZ := Lib.hid (show ((V3.alloc (.cells #[.int .u8 (y.toNat : Int)] 5)).alloc (.cells #[.bool false, .slice none 0 0, .bool false] 24)).drew.heap[V3.heap.size]? = some (.cells #[.int .u8 (y.toNat : Int)] 5) from by
    have h := heap_alloc_new V3 (.cells #[.int .u8 (y.toNat : Int)] 5)
    exact (Obj.old h _))
  have HZ_YZ := Lib.hid (show ((V3.alloc (.cells #[.int .u8 (y.toNat : Int)] 5)).alloc (.cells #[.bool false, .slice none 0 0, .bool false] 24)).drew.heap[V3.heap.size + 1]? = some (.cells #[.bool false, .slice none 0 0, .bool false] 24) from by
    have h := heap_alloc_new (V3.alloc (.cells #[.int .u8 (y.toNat : Int)] 5)) (.cells #[.bool false, .slice none 0 0, .bool false] 24)
    rw [World.size_alloc] at h
    exact h)
  have BBZE := Lib.hid ((((Below.refl V3.heap.size V3).alloc (Nat.le_refl _) (.cells #[.bool false, .slice none 0 0, .bool false] 24)).alloc (le_alloc (Nat.le_refl _) _) (.cells #[] 5)).drew)
  have HZ_ZE := Lib.hid (show ((V3.alloc (.cells #[.bool false, .slice none 0 0, .bool false] 24)).alloc (.cells #[] 5)).drew.heap[V3.heap.size]? = some (.cells #[.bool false, .slice none 0 0, .bool false] 24) from by
    have h := heap_alloc_new V3 (.cells #[.bool false, .slice none 0 0, .bool false] 24)
    exact (Obj.old h _))
  have HE_ZE := Lib.hid (show ((V3.alloc (.cells #[.bool false, .slice none 0 0, .bool false] 24)).alloc (.cells #[] 5)).drew.heap[V3.heap.size + 1]? = some (.cells #[] 5) from by
    have h := heap_alloc_new (V3.alloc (.cells #[.bool false, .slice none 0 0, .bool false] 24)) (.cells #[] 5)
    rw [World.size_alloc] at h
    exact h)
  have BBZY := Lib.hid ((((Below.refl V3.heap.size V3).alloc (Nat.le_refl _) (.cells #[.bool false, .slice none 0 0, .bool false] 24)).alloc (le_alloc (Nat.le_refl _) _) (.cells #[.int .u8 (y.toNat : Int)] 5)).drew)
  have HZ_ZY := Lib.hid (show ((V3.alloc (.cells #[.bool false, .slice none 0 0, .bool false] 24)).alloc (.cells #[.int .u8 (y.toNat : Int)] 5)).drew.heap[V3.heap.size]? = some (.cells #[.bool false, .slice none 0 0, .bool false] 24) from by
    have h := heap_alloc_new V3 (.cells #[.bool false, .slice none 0 0, .bool false] 24)
    exact (Obj.old h _))
  have HY_ZY := Lib.hid (show ((V3.alloc (.cells #[.bool false, .slice none 0 0, .bool false] 24)).alloc (.cells #[.int .u8 (y.toNat : Int)] 5)).drew.heap[V3.heap.size + 1]? = some (.cells #[.int .u8 (y.toNat : Int)] 5) from by
    have h := heap_alloc_new (V3.alloc (.cells #[.bool false, .slice none 0 0, .bool false] 24)) (.cells #[.int .u8 (y.toNat : Int)] 5)
    rw [World.size_alloc] at h
    exact h)
  have BBEYZ := Lib.hid (((((Below.refl V3.heap.size V3).alloc (Nat.le_refl _) (.cells #[] 5)).alloc (le_alloc (Nat.le_refl _) _) (.cells #[.int .u8 (y.toNat : Int)] 5)).alloc (le_alloc (le_alloc (Nat.le_refl _) _) _) (.cells #[.bool false, .slice none 0 0, .bool false] 24)).drew)
  have HE_EYZ := Lib.hid (show (((V3.alloc (.cells #[] 5)).alloc (.cells #[.int .u8 (y.toNat : Int)] 5)).alloc (.cells #[.bool false, .slice none 0 0, .bool false] 24)).drew.heap[V3.heap.size]? = some (.cells #[] 5) from by
    have h := heap_alloc_new V3 (.cells #[] 5)
    exact (Obj.old (Obj.old h _) _))
  have HY_EYZ := Lib.hid (show (((V3.alloc (.cells #[] 5)).alloc (.cells #[.int .u8 (y.toNat : Int)] 5)).alloc (.cells #[.bool false, .slice none 0 0, .bool false] 24)).drew.heap[V3.heap.size + 1]? = some (.cells #[.int .u8 (y.toNat : Int)] 5) from by
    have h := heap_alloc_new (V3.alloc (.cells #[] 5)) (.cells #[.int .u8 (y.toNat : Int)] 5)
    rw [World.size_alloc] at h
    exact (Obj.old h _))
  have HZ_EYZ := Lib.hid (show (((V3.alloc (.cells #[] 5)).alloc (.cells #[.int .u8 (y.toNat : Int)] 5)).alloc (.cells #[.bool false, .slice none 0 0, .bool false] 24)).drew.heap[V3.heap.size + 1 + 1]? = some (.cells #[.bool false, .slice none 0 0, .bool false] 24) from by
    have h := heap_alloc_new ((V3.alloc (.cells #[] 5)).alloc (.cells #[.int .u8 (y.toNat : Int)] 5)) (.cells #[.bool false, .slice none 0 0, .bool false] 24)
    rw [World.size_alloc, World.size_alloc] at h
    exact h)
  have BBEZY := Lib.hid (((((Below.refl V3.heap.size V3).alloc (Nat.le_refl _) (.cells #[] 5)).alloc (le_alloc (Nat.le_refl _) _) (.cells #[.bool false, .slice none 0 0, .bool false] 24)).alloc (le_alloc (le_alloc (Nat.le_refl _) _) _) (.cells #[.int .u8 (y.toNat : Int)] 5)).drew)
  have HE_EZY := Lib.hid (show (((V3.alloc (.cells #[] 5)).alloc (.cells #[.bool false, .slice none 0 0, .bool false] 24)).alloc (.cells #[.int .u8 (y.toNat : Int)] 5)).drew.heap[V3.heap.size]? = some (.cells #[] 5) from by
    have h := heap_alloc_new V3 (.cells #[] 5)
    exact (Obj.old (Obj.old h _) _))
  have HZ_EZY := Lib.hid (show (((V3.alloc (.cells #[] 5)).alloc (.cells #[.bool false, .slice none 0 0, .bool false] 24)).alloc (.cells #[.int .u8 (y.toNat : Int)] 5)).drew.heap[V3.heap.size + 1]? = some (.cells #[.bool false, .slice none 0 0, .bool false] 24) from by
    have h := heap_alloc_new (V3.alloc (.cells #[] 5)) (.cells #[.bool false, .slice none 0 0, .bool false] 24)
    rw [World.size_alloc] at h
    exact (Obj.old h _))
  have HY_EZY := Lib.hid (show (((V3.alloc (.cells #[] 5)).alloc (.cells #[.bool false, .slice none 0 0, .bool false] 24)).alloc (.cells #[.int .u8 (y.toNat : Int)] 5)).drew.heap[V3.heap.size + 1 + 1]? = some (.cells #[.int .u8 (y.toNat : Int)] 5) from by
    have h := heap_alloc_new ((V3.alloc (.cells #[] 5)).alloc (.cells #[.bool false, .slice none 0 0, .bool false] 24)) (.cells #[.int .u8 (y.toNat : Int)] 5)
    rw [World.size_alloc, World.size_alloc] at h
    exact h)
  have BBYEZ := Lib.hid (((((Below.refl V3.heap.size V3).alloc (Nat.le_refl _) (.cells #[.int .u8 (y.toNat : Int)] 5)).alloc (le_alloc (Nat.le_refl _) _) (.cells #[] 5)).alloc (le_alloc (le_alloc (Nat.le_refl _) _) _) (.cells #[.bool false, .slice none 0 0, .bool false] 24)).drew)
  have HY_YEZ := Lib.hid (show (((V3.alloc (.cells #[.int .u8 (y.toNat : Int)] 5)).alloc (.cells #[] 5)).alloc (.cells #[.bool false, .slice none 0 0, .bool false] 24)).drew.heap[V3.heap.size]? = some (.cells #[.int .u8 (y.toNat : Int)] 5) from by
    have h := heap_alloc_new V3 (.cells #[.int .u8 (y.toNat : Int)] 5)
    exact (Obj.old (Obj.old h _) _))
  have HE_YEZ := Lib.hid (show (((V3.alloc (.cells #[.int .u8 (y.toNat : Int)] 5)).alloc (.cells #[] 5)).alloc (.cells #[.bool false, .slice none 0 0, .bool false] 24)).drew.heap[V3.heap.size + 1]? = some (.cells #[] 5) from by
    have h := heap_alloc_new (V3.alloc (.cells #[.int .u8 (y.toNat : Int)] 5)) (.cells #[] 5)
    rw [World.size_alloc] at h
    exact (Obj.old h _))
  have HZ_YEZ := Lib.hid (show (((V3.alloc (.cells #[.int .u8 (y.toNat : Int)] 5)).alloc (.cells #[] 5)).alloc (.cells #[.bool false, .slice none 0 0, .bool false] 24)).drew.heap[V3.heap.size + 1 + 1]? = some (.cells #[.bool false, .slice none 0 0, .bool false] 24) from by
    have h := heap_alloc_new ((V3.alloc (.cells #[.int .u8 (y.toNat : Int)] 5)).alloc (.cells #[] 5)) (.cells #[.bool false, .slice none 0 0, .bool false] 24)
    rw [World.size_alloc, World.size_alloc] at h
    exact h)
  have BBYZE := Lib.hid (((((Below.refl V3.heap.size V3).alloc (Nat.le_refl _) (.cells #[.int .u8 (y.toNat : Int)] 5)).alloc (le_alloc (Nat.le_refl _) _) (.cells #[.bool false, .slice none 0 0, .bool false] 24)).alloc (le_alloc (le_alloc (Nat.le_refl _) _) _) (.cells #[] 5)).drew)
  have HY_YZE := Lib.hid (show (((V3.alloc (.cells #[.int .u8 (y.toNat : Int)] 5)).alloc (.cells #[.bool false, .slice none 0 0, .bool false] 24)).alloc (.cells #[] 5)).drew.heap[V3.heap.size]? = some (.cells #[.int .u8 (y.toNat : Int)] 5) from by
    have h := heap_alloc_new V3 (.cells #[.int .u8 (y.toNat : Int)] 5)
    exact (Obj.old (Obj.old h _) _))
  have HZ_YZE := Lib.hid (show (((V3.alloc (.cells #[.int .u8 (y.toNat : Int)] 5)).alloc (.cells #[.bool false, .slice none 0 0, .bool false] 24)).alloc (.cells #[] 5)).drew.heap[V3.heap.size + 1]? = some (.cells #[.bool false, .slice none 0 0, .bool false] 24) from by
    have h := heap_alloc_new (V3.alloc (.cells #[.int .u8 (y.toNat : Int)] 5)) (.cells #[.bool false, .slice none 0 0, .bool false] 24)
    rw [World.size_alloc] at h
    exact (Obj.old h _))
  have HE_YZE := Lib.hid (show (((V3.alloc (.cells #[.int .u8 (y.toNat : Int)] 5)).alloc (.cells #[.bool false, .slice none 0 0, .bool false] 24)).alloc (.cells #[] 5)).drew.heap[V3.heap.size + 1 + 1]? = some (.cells #[] 5) from by
    have h := heap_alloc_new ((V3.alloc (.cells #[.int .u8 (y.toNat : Int)] 5)).alloc (.cells #[.bool false, .slice none 0 0, .bool false] 24)) (.cells #[] 5)
    rw [World.size_alloc, World.size_alloc] at h
    exact h)
  have BBZEY := Lib.hid (((((Below.refl V3.heap.size V3).alloc (Nat.le_refl _) (.cells #[.bool false, .slice none 0 0, .bool false] 24)).alloc (le_alloc (Nat.le_refl _) _) (.cells #[] 5)).alloc (le_alloc (le_alloc (Nat.le_refl _) _) _) (.cells #[.int .u8 (y.toNat : Int)] 5)).drew)
  have HZ_ZEY := Lib.hid (show (((V3.alloc (.cells #[.bool false, .slice none 0 0, .bool false] 24)).alloc (.cells #[] 5)).alloc (.cells #[.int .u8 (y.toNat : Int)] 5)).drew.heap[V3.heap.size]? = some (.cells #[.bool false, .slice none 0 0, .bool false] 24) from by
    have h := heap_alloc_new V3 (.cells #[.bool false, .slice none 0 0, .bool false] 24)
    exact (Obj.old (Obj.old h _) _))
  have HE_ZEY := Lib.hid (show (((V3.alloc (.cells #[.bool false, .slice none 0 0, .bool false] 24)).alloc (.cells #[] 5)).alloc (.cells #[.int .u8 (y.toNat : Int)] 5)).drew.heap[V3.heap.size + 1]? = some (.cells #[] 5) from by
    have h := heap_alloc_new (V3.alloc (.cells #[.bool false, .slice none 0 0, .bool false] 24)) (.cells #[] 5)
    rw [World.size_alloc] at h
    exact (Obj.old h _))
  have HY_ZEY := Lib.hid (show (((V3.alloc (.cells #[.bool false, .slice none 0 0, .bool false] 24)).alloc (.cells #[] 5)).alloc (.cells #[.int .u8 (y.toNat : Int)] 5)).drew.heap[V3.heap.size + 1 + 1]? = some (.cells #[.int .u8 (y.toNat : Int)] 5) from by
    have h := heap_alloc_new ((V3.alloc (.cells #[.bool false, .slice none 0 0, .bool false] 24)).alloc (.cells #[] 5)) (.cells #[.int .u8 (y.toNat : Int)] 5)
    rw [World.size_alloc, World.size_alloc] at h
    exact h)
  have BBZYE := Lib.hid (((((Below.refl V3.heap.size V3).alloc (Nat.le_refl _) (.cells #[.bool false, .slice none 0 0, .bool false] 24)).alloc (le_alloc (Nat.le_refl _) _) (.cells #[.int .u8 (y.toNat : Int)] 5)).alloc (le_alloc (le_alloc (Nat.le_refl _) _) _) (.cells #[] 5)).drew)
  have HZ_ZYE := Lib.hid (show (((V3.alloc (.cells #[.bool false, .slice none 0 0, .bool false] 24)).alloc (.cells #[.int .u8 (y.toNat : Int)] 5)).alloc (.cells #[] 5)).drew.heap[V3.heap.size]? = some (.cells #[.bool false, .slice none 0 0, .bool false] 24) from by
    have h := heap_alloc_new V3 (.cells #[.bool false, .slice none 0 0, .bool false] 24)
    exact (Obj.old (Obj.old h _) _))
  have HY_ZYE := Lib.hid (show (((V3.alloc (.cells #[.bool false, .slice none 0 0, .bool false] 24)).alloc (.cells #[.int .u8 (y.toNat : Int)] 5)).alloc (.cells #[] 5)).drew.heap[V3.heap.size + 1]? = some (.cells #[.int .u8 (y.toNat : Int)] 5) from by
    have h := heap_alloc_new (V3.alloc (.cells #[.bool false, .slice none 0 0, .bool false] 24)) (.cells #[.int .u8 (y.toNat : Int)] 5)
    rw [World.size_alloc] at h
    exact (Obj.old h _))
  have HE_ZYE := Lib.hid (show (((V3.alloc (.cells #[.bool false, .slice none 0 0, .bool false] 24)).alloc (.cells #[.int .u8 (y.toNat : Int)] 5)).alloc (.cells #[] 5)).drew.heap[V3.heap.size + 1 + 1]? = some (.cells #[] 5) from by
    have h := heap_alloc_new ((V3.alloc (.cells #[.bool false, .slice none 0 0, .bool false] 24)).alloc (.cells #[.int .u8 (y.toNat : Int)] 5)) (.cells #[] 5)
    rw [World.size_alloc, World.size_alloc] at h
    exact h)
  have hle1 : V3.heap.size ≤ V3.heap.size + 1 := Nat.le_succ _
  have hle2 : V3.heap.size ≤ V3.heap.size + 1 + 1 := Nat.le_add_right _ 2
  have hyne : (#[.int .u8 (y.toNat : Int)] : Array Value) ≠ #[] := by simp
  have hzne : (#[.bool false, .slice none 0 0, .bool false] : Array Value) ≠ #[] := by simp
  have KEEP := Lib.hid (show ∀ w', Below V3.heap.size V3 w' → (Below V3.heap.size V3 w' ∧ w'.cell? ⟨g3, 0, none⟩ = some (.bool i) ∧ w'.cell? ⟨g3, 1, none⟩ = some (.slice A1 N1 c1) ∧ w'.cell? ⟨g3, 2, none⟩ = some (.bool f)) from fun w' h => by
    obtain ⟨a0, a1', a2'⟩ := cells3 (old_below G3.out h (Nat.le_refl _))
    exact ⟨h, a0, a1', a2'⟩)
  have CG1 := Lib.hid (fun (o : Oper) (a : Act) (Kk : Act → World → Prop) (Q : Exit → Act → World → Prop) (ge : Nat) (W : World) (ho : o.op = .call { callee := .builtin .append, args := #[.tmp 95, .tmp 96], argTypes := #[25, 25] }) (h1 : a.eval (.tmp 95) = .slice (some ⟨ge, 0, none⟩) 0 0) (h2 : a.eval (.tmp 96) = .slice T1 16 tc1) (h3 : W.heap[ge]? = some (.cells #[] 5 (0, 0))) (hge : V3.heap.size ≤ ge) (hbel : Below V3.heap.size V3 W) (hK : ∀ (A' : Option Addr) (c' : Nat) (w' : World), Ow w' V3.heap.size (.slice A' 16 c') U → Below V3.heap.size V3 w' → (∀ (k : Nat) (c : Array Value) (t : TypeId), c ≠ #[] → W.heap[k]? = some (.cells c t (0, 0)) → w'.heap[k]? = some (.cells c t (0, 0))) → Kk (a.put o.dst (.slice A' 16 c')) w') =>
    (wp_copyB W (.tmp 95) (.tmp 96) ge V3.heap.size T1 16 tc1 U ho h1 h2 h3 hge HU.out.symm (by omega) (RX1.out W (F1.out W hbel)) hbel.size (fun A' c' w' p1 p2 p3 => hK A' c' w' p1 (hbel.trans p2) p3) : o.wp Tryd.prog a W Kk Q))
  have CG2 := Lib.hid (fun (o : Oper) (a : Act) (Kk : Act → World → Prop) (Q : Exit → Act → World → Prop) (gy : Nat) (A : Option Addr) (c : Nat) (W : World) (ho : o.op = .call { callee := .builtin .append, args := #[.tmp 97, .tmp 99], argTypes := #[25, 25] }) (h1 : a.eval (.tmp 97) = .slice A 16 c) (h2 : a.eval (.tmp 99) = .slice (some ⟨gy, 0, none⟩) 1 1) (hown : Ow W V3.heap.size (.slice A 16 c) U) (h3 : W.heap[gy]? = some (.cells #[.int .u8 (y.toNat : Int)] 5 (0, 0))) (hbel : Below V3.heap.size V3 W) (hK : ∀ (A' : Option Addr) (c' : Nat) (w' : World), 17 ≤ c' → c' ≤ 9223372036854775807 → Rd w' w'.heap.size A' (U ++ [y]) → Below V3.heap.size V3 w' → (∀ (k : Nat), W.heap[k]? = some zcells → w'.heap[k]? = some zcells) → Kk (a.put o.dst (.slice A' 17 c')) w') =>
    (wp_moreB W (.tmp 97) (.tmp 99) gy V3.heap.size A 16 17 c U y ho h1 h2 hown HU.out.symm (by omega) (by omega) rfl h3 hbel.size (fun A' c' w' p1 p2 p3 p4 p5 => hK A' c' w' p1 p2 p3 (hbel.trans p4) p5) : o.wp Tryd.prog a W Kk Q))
  go_wp2_with fail
  go_cut [17, 18] (fun v u wx => ∃ g, v = .pointer (some ⟨g, 0, none⟩) ∧ u = .bool false ∧ wx.heap[g]? = some (.cells (pcs i A1 N1 c1 f) 24 (0, 0)) ∧ V3.heap.size ≤ g ∧ Below V3.heap.size V3 wx)
  case first =>
    go_region_held3 (fun w' => Below V3.heap.size V3 w' ∧ w'.cell? ⟨g3, 0, none⟩ = some (.bool i) ∧ w'.cell? ⟨g3, 1, none⟩ = some (.slice A1 N1 c1) ∧ w'.cell? ⟨g3, 2, none⟩ = some (.bool f))
      (first | with_reducible exact KEEP.out _ BB0.out | with_reducible exact KEEP.out _ BBE.out | with_reducible exact KEEP.out _ BBY.out | with_reducible exact KEEP.out _ BBZ.out | with_reducible exact KEEP.out _ BBEY.out | with_reducible exact KEEP.out _ BBEZ.out | with_reducible exact KEEP.out _ BBYE.out | with_reducible exact KEEP.out _ BBYZ.out | with_reducible exact KEEP.out _ BBZE.out | with_reducible exact KEEP.out _ BBZY.out | with_reducible exact KEEP.out _ BBEYZ.out | with_reducible exact KEEP.out _ BBEZY.out | with_reducible exact KEEP.out _ BBYEZ.out | with_reducible exact KEEP.out _ BBYZE.out | with_reducible exact KEEP.out _ BBZEY.out | with_reducible exact KEEP.out _ BBZYE.out | with_reducible exact KEEP.out _ BB6.out | with_reducible exact KEEP.out _ (BB6.out.alloc hs6 _) | with_reducible exact KEEP.out _ ((BB6.out.alloc hs6 _).alloc (le_alloc hs6 _) _) | with_reducible exact KEEP.out _ BB7.out | with_reducible exact KEEP.out _ (BB7.out.alloc hs7 _) | with_reducible exact KEEP.out _ BB8.out | with_reducible exact KEEP.out _ (BB8.out.alloc hs8 _) | with_reducible exact KEEP.out _ (Below.set3' BB8.out (Nat.le_refl _) _ _ _) | with_reducible exact KEEP.out _ (Below.set3' BB8.out hle1 _ _ _) | with_reducible exact KEEP.out _ (Below.set3' BB8.out hle2 _ _ _) | with_reducible exact KEEP.out _ (Below.set3' BB8.out hs6 _ _ _) | with_reducible exact KEEP.out _ (Below.set3' BB8.out hs61 _ _ _) | with_reducible exact KEEP.out _ (Below.set3' BB8.out hs7 _ _ _) | with_reducible exact KEEP.out _ (Below.set3' BB8.out hs8 _ _ _))
      (first
      | (rw [if_pos (by rfl)]; refine CG1.out _ _ _ _ _ _ (by rfl) (by rfl) (by rfl) ?_ ?_ ?_ ?_; (first | with_reducible exact HE_E.out | with_reducible exact HE_EY.out | with_reducible exact HE_EZ.out | with_reducible exact HE_YE.out | with_reducible exact HE_ZE.out | with_reducible exact HE_EYZ.out | with_reducible exact HE_EZY.out | with_reducible exact HE_YEZ.out | with_reducible exact HE_YZE.out | with_reducible exact HE_ZEY.out | with_reducible exact HE_ZYE.out); (first | with_reducible exact Nat.le_refl _ | with_reducible exact hle1 | with_reducible exact hle2); (first | with_reducible exact BBE.out | with_reducible exact BBEY.out | with_reducible exact BBEZ.out | with_reducible exact BBYE.out | with_reducible exact BBZE.out | with_reducible exact BBEYZ.out | with_reducible exact BBEZY.out | with_reducible exact BBYEZ.out | with_reducible exact BBYZE.out | with_reducible exact BBZEY.out | with_reducible exact BBZYE.out); intro A6 c6 w6 own6 b6 keep6; have O6 := Lib.hid own6; have BB6 := Lib.hid b6; have hs6 : V3.heap.size ≤ w6.heap.size := BB6.out.size; have hs61 : V3.heap.size ≤ w6.heap.size + 1 := Nat.le_succ_of_le hs6; (first | ((with_reducible have hx := keep6 _ _ _ hyne HY_EY.out); have Y6 := Lib.hid hx; clear hx) | ((with_reducible have hx := keep6 _ _ _ hyne HY_YE.out); have Y6 := Lib.hid hx; clear hx) | ((with_reducible have hx := keep6 _ _ _ hyne HY_EYZ.out); have Y6 := Lib.hid hx; clear hx) | ((with_reducible have hx := keep6 _ _ _ hyne HY_EZY.out); have Y6 := Lib.hid hx; clear hx) | ((with_reducible have hx := keep6 _ _ _ hyne HY_YEZ.out); have Y6 := Lib.hid hx; clear hx) | ((with_reducible have hx := keep6 _ _ _ hyne HY_YZE.out); have Y6 := Lib.hid hx; clear hx) | ((with_reducible have hx := keep6 _ _ _ hyne HY_ZEY.out); have Y6 := Lib.hid hx; clear hx) | ((with_reducible have hx := keep6 _ _ _ hyne HY_ZYE.out); have Y6 := Lib.hid hx; clear hx) | skip); (first | ((with_reducible have hx := keep6 _ _ _ hzne HZ_EZ.out); have Z6 := Lib.hid hx; clear hx) | ((with_reducible have hx := keep6 _ _ _ hzne HZ_ZE.out); have Z6 := Lib.hid hx; clear hx) | ((with_reducible have hx := keep6 _ _ _ hzne HZ_EYZ.out); have Z6 := Lib.hid hx; clear hx) | ((with_reducible have hx := keep6 _ _ _ hzne HZ_EZY.out); have Z6 := Lib.hid hx; clear hx) | ((with_reducible have hx := keep6 _ _ _ hzne HZ_YEZ.out); have Z6 := Lib.hid hx; clear hx) | ((with_reducible have hx := keep6 _ _ _ hzne HZ_YZE.out); have Z6 := Lib.hid hx; clear hx) | ((with_reducible have hx := keep6 _ _ _ hzne HZ_ZEY.out); have Z6 := Lib.hid hx; clear hx) | ((with_reducible have hx := keep6 _ _ _ hzne HZ_ZYE.out); have Z6 := Lib.hid hx; clear hx) | skip); clear own6 b6 keep6)
      | (rw [if_pos (by rfl)]; refine CG2.out _ _ _ _ _ _ _ _ (by rfl) (by rfl) (by rfl) ?_ ?_ ?_ ?_; (first | with_reducible exact O6.out | with_reducible exact Ow.alloc O6.out _ | with_reducible exact Ow.alloc (Ow.alloc O6.out _) _); (first | with_reducible exact Y6.out | with_reducible exact Obj.old Y6.out _ | with_reducible exact heap_alloc_new w6 _ | with_reducible exact Obj.old (heap_alloc_new w6 _) _ | with_reducible exact Obj.new2 w6 _ _); (first | with_reducible exact BB6.out | with_reducible exact BB6.out.alloc hs6 _ | with_reducible exact (BB6.out.alloc hs6 _).alloc (le_alloc hs6 _) _); intro A7 c7 w7 m7 x7 rd7 b7 keep7; have RD7 := Lib.hid rd7; have BB7 := Lib.hid b7; have hs7 : V3.heap.size ≤ w7.heap.size := BB7.out.size; (first | ((with_reducible have hx := keep7 _ Z6.out); have Z7 := Lib.hid hx; clear hx) | ((with_reducible have hx := keep7 _ (Obj.old Z6.out _)); have Z7 := Lib.hid hx; clear hx) | ((with_reducible have hx := keep7 _ (heap_alloc_new w6 _)); have Z7 := Lib.hid hx; clear hx) | ((with_reducible have hx := keep7 _ (Obj.old (heap_alloc_new w6 _) _)); have Z7 := Lib.hid hx; clear hx) | ((with_reducible have hx := keep7 _ (Obj.new2 w6 _ _)); have Z7 := Lib.hid hx; clear hx) | skip); clear rd7 b7 keep7)
      | (go_at_call 13; (with_reducible refine (CS.out A1 c1 _ (U ++ [y]) 17 c7 _ HM1.out HM2.out HM3.out ?_ ?_ ?_).mono ?_); (first | with_reducible exact RT1.out _ (F1.out _ BB7.out) | with_reducible exact RT1.out _ (F1.out _ (BB7.out.alloc hs7 _))); (first | with_reducible exact RD7.out | with_reducible exact Rd.al RD7.out _); (first | with_reducible exact FW.out _ BB7.out | with_reducible exact FW.out _ (BB7.out.alloc hs7 _)); rintro e ww8 ⟨rfl, hb⟩; have BB8 := Lib.hid (by first | with_reducible exact bel_call BB7.out hb BB7.out.size | with_reducible exact bel_call (BB7.out.alloc hs7 _) hb (BB7.out.alloc hs7 _).size); have hs8 : V3.heap.size ≤ ww8.heap.size := BB8.out.size; (first | (have hz := old_below Z7.out hb (Nat.le_refl _); have Z8 := Lib.hid hz; obtain ⟨z0, z1, z2⟩ := cells3 hz; obtain ⟨y0, y1, y2⟩ := frozen3 hz; clear hz) | (have hz := old_below (g := w7.heap.size) (by exact heap_alloc_new w7 zcells) hb (Nat.le_refl _); have Z8 := Lib.hid hz; obtain ⟨z0, z1, z2⟩ := cells3 hz; obtain ⟨y0, y1, y2⟩ := frozen3 hz; clear hz) | skip); clear hb))
    all_goals
      go_wp2_with fail
      go_meet
      case rel => first
        | (refine ⟨ww8.heap.size, ?_⟩; refine ⟨by with_reducible rfl, ?_⟩; exact ⟨by with_reducible rfl, heap_alloc_new ww8 _, hs8, BB8.out.alloc hs8 _⟩)
        | (refine ⟨V3.heap.size, ?_⟩; refine ⟨by with_reducible rfl, ?_⟩; exact ⟨by with_reducible rfl, set3_same (.bool i) (.slice A1 N1 c1) (.bool f) Z8.out, (Nat.le_refl _), Below.set3 BB8.out (Nat.le_refl _) (.bool i) (.slice A1 N1 c1) (.bool f)⟩)
        | (refine ⟨V3.heap.size + 1, ?_⟩; refine ⟨by with_reducible rfl, ?_⟩; exact ⟨by with_reducible rfl, set3_same (.bool i) (.slice A1 N1 c1) (.bool f) Z8.out, hle1, Below.set3 BB8.out hle1 (.bool i) (.slice A1 N1 c1) (.bool f)⟩)
        | (refine ⟨V3.heap.size + 1 + 1, ?_⟩; refine ⟨by with_reducible rfl, ?_⟩; exact ⟨by with_reducible rfl, set3_same (.bool i) (.slice A1 N1 c1) (.bool f) Z8.out, hle2, Below.set3 BB8.out hle2 (.bool i) (.slice A1 N1 c1) (.bool f)⟩)
        | (refine ⟨w6.heap.size, ?_⟩; refine ⟨by with_reducible rfl, ?_⟩; exact ⟨by with_reducible rfl, set3_same (.bool i) (.slice A1 N1 c1) (.bool f) Z8.out, hs6, Below.set3 BB8.out hs6 (.bool i) (.slice A1 N1 c1) (.bool f)⟩)
        | (refine ⟨w6.heap.size + 1, ?_⟩; refine ⟨by with_reducible rfl, ?_⟩; exact ⟨by with_reducible rfl, set3_same (.bool i) (.slice A1 N1 c1) (.bool f) Z8.out, hs61, Below.set3 BB8.out hs61 (.bool i) (.slice A1 N1 c1) (.bool f)⟩)
        | (refine ⟨w7.heap.size, ?_⟩; refine ⟨by with_reducible rfl, ?_⟩; exact ⟨by with_reducible rfl, set3_same (.bool i) (.slice A1 N1 c1) (.bool f) Z8.out, hs7, Below.set3 BB8.out hs7 (.bool i) (.slice A1 N1 c1) (.bool f)⟩)
  case rest =>
  obtain ⟨g4, rfl, rfl, hg, hgl, hB⟩ := hcut
  obtain ⟨V4, hV4⟩ : ∃ x, x = wc := ⟨_, rfl⟩
  rw [← hV4] at hg hB
  rw [← hV4]
  have nG1 := Lib.hid (old_below G1.out hB (Nat.le_refl _))
  have nBW := Lib.hid (bel_call BW.out hB BW.out.size)
  have nB1 := Lib.hid (bel_call B1.out hB B1.out.size)
  have G4 := Lib.hid hg
  clear hV4 hg hgl hB BB0 KEEP F1 FW G1 G3 BW B1 CG1 CG2 hle1 hle2 hyne hzne CS
  obtain ⟨x0, x1, x2⟩ := cells3 nG1.out
  obtain ⟨z0, z1, z2⟩ := cells3 G4.out
  go_wp2_with fail
  refine (SM.out A1 A1 c1 c1 _ (RT1.out _ nB1.out) (RT1.out _ nB1.out)).mono ?_
  rintro e w9 ⟨rfl, hb9⟩
  have BW9 := Lib.hid (bel_call nBW.out hb9 nBW.out.size)
  clear hb9 x0 x1 x2 z0 z1 z2
  go_wp2_with fail
  go_ret
  exact ⟨rfl, BW9.out⟩
end Go.Proofs.YtcfncbbdlbdbnaaDoor
