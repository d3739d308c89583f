
/- MacApart's walk. -/
import Derived.Test.YtgabcbifefokkaaDoorApartA
import Derived.Test.YtgabcbifefokkaaDoorMBlocks
namespace Go.Proofs.YtgabcbifefokkaaDoor
open Go.RowKit

theorem strs_ne (a b : ByteArray) (h : ¬ a = b) : (a.toList == b.toList) = false := by
  obtain ⟨⟨u⟩⟩ := a
  obtain ⟨⟨v⟩⟩ := b
  have h2 : ¬ u = v := fun e => h (by rw [e])
  simpa using h2
theorem refSame_g (A B : Option Addr) (la lb : List UInt8) (ca cb n m : Nat) (w : World) (b : Bool) (hn : n = la.length) (hm : m = lb.length) (h : decide (la = lb) = b) (h1 : Rd w w.heap.size A la) (h2 : Rd w w.heap.size B lb) :
    Calls Tryd.prog 11 #[.slice A n ca, .slice B m cb] w fun e w' => e = .returned (.bool b) ∧ w = w' := by
  subst hn hm h
  exact same_any A B la lb ca cb _ _ w h1 h2
theorem rows_b (P Q : Option Addr) (ps qs : List (List UInt8)) (c d n m : Nat) (b : Bool) (w : World) (hn : n = ps.length) (hm : m = qs.length) (hb : decide (ps = qs) = b) (hpl : ps.length ≤ 1000) (hql : qs.length ≤ 1000) (hp : Mat w w.heap.size P ps) (hq : Mat w w.heap.size Q qs) :
    Calls Tryd.prog 23 #[.slice P n c, .slice Q m d] w fun e w' => e = .returned (.bool b) ∧ Below w.heap.size w w' := by
  subst hn hm hb
  exact rows_any P Q ps qs c d w hp hq hpl hql

set_option maxRecDepth 100000 in
set_option maxHeartbeats 8000000 in
theorem macApart_walk (A : Option Addr) (k : List UInt8) (c : Nat) (a b : ByteArray) (P : Option Addr) (ps : List (List UInt8)) (pc : Nat) (Q : Option Addr) (qs : List (List UInt8)) (qc : Nat) (W : World) (hc : k.length ≤ c) (hr : Rd W W.heap.size A k) (ha : a.size ≤ 9223372036854775807) (hb : b.size ≤ 9223372036854775807) (hpc : ps.length ≤ pc) (hpc2 : pc ≤ 9223372036854775807) (hp : Mat W W.heap.size P ps) (hqc : qs.length ≤ qc) (hqc2 : qc ≤ 9223372036854775807) (hq : Mat W W.heap.size Q qs) (hk : Ks W) :
    Calls Tryd.prog 7 #[.agg #[.slice A k.length c, .string a, .string b, .slice P ps.length pc, .slice Q qs.length qc]] W fun e W' => e = .returned (.bool true) ∧ Below W.heap.size W W' := by
  have RA := Lib.hid (fun w (h : Below W.heap.size W w) => (hr.below h (Nat.le_refl _)).more h.size)
  have RP := Lib.hid (fun w (h : Below W.heap.size W w) => (hp.below h (Nat.le_refl _)).more h.size)
  have RQ := Lib.hid (fun w (h : Below W.heap.size W w) => (hq.below h (Nat.le_refl _)).more h.size)
  have KB := Lib.hid (fun w (h : Below W.heap.size W w) => Ks.call hk h)
  obtain ⟨n, hn⟩ : ∃ n, n = k.length := ⟨_, rfl⟩
  obtain ⟨p, hpn⟩ : ∃ p, p = ps.length := ⟨_, rfl⟩
  obtain ⟨q, hqn⟩ : ∃ q, q = qs.length := ⟨_, rfl⟩
  have hp63 : p ≤ 9223372036854775807 := by omega
  have hq63 : q ≤ 9223372036854775807 := by omega
  have HB0 := Lib.hid ((Below.refl W.heap.size W).alloc (Nat.le_refl _) (.cells #[.slice A n c, .string a, .string b, .slice P p pc, .slice Q q qc] 36))
  by_cases h1 : 100 < n
  · have i1 : (100 : Int) < (n : Int) := by omega
    rw [← hn, ← hpn, ← hqn]
    clear hr hp hq hk hn hpn hqn hc hpc hqc hpc2 hqc2
    go_enter Tryd.func7, Tryd.ntmps7
    go_wp2_with fail
    refine (shown3_any _ (KB.out _ HB0.out)).mono ?_
    rintro e W1 ⟨rfl, hb1⟩
    have HB1 := Lib.hid (bel_call HB0.out hb1 HB0.out.size)
    have hsz1 := HB1.out.size
    clear hb1
    go_wp2
    go_ret
    exact ⟨rfl, HB1.out⟩
  · have i1 : ¬ (100 : Int) < (n : Int) := by omega
    by_cases h2 : 255 < a.size
    · have i2 : (255 : Int) < (a.size : Int) := by omega
      rw [← hn, ← hpn, ← hqn]
      clear hr hp hq hk hn hpn hqn hc hpc hqc hpc2 hqc2
      go_enter Tryd.func7, Tryd.ntmps7
      go_wp2_with fail
      refine (shown3_any _ (KB.out _ HB0.out)).mono ?_
      rintro e W1 ⟨rfl, hb1⟩
      have HB1 := Lib.hid (bel_call HB0.out hb1 HB0.out.size)
      have hsz1 := HB1.out.size
      clear hb1
      go_wp2
      go_ret
      exact ⟨rfl, HB1.out⟩
    · have i2 : ¬ (255 : Int) < (a.size : Int) := by omega
      by_cases h3 : 255 < b.size
      · have i3 : (255 : Int) < (b.size : Int) := by omega
        rw [← hn, ← hpn, ← hqn]
        clear hr hp hq hk hn hpn hqn hc hpc hqc hpc2 hqc2
        go_enter Tryd.func7, Tryd.ntmps7
        go_wp2_with fail
        refine (shown3_any _ (KB.out _ HB0.out)).mono ?_
        rintro e W1 ⟨rfl, hb1⟩
        have HB1 := Lib.hid (bel_call HB0.out hb1 HB0.out.size)
        have hsz1 := HB1.out.size
        clear hb1
        go_wp2
        go_ret
        exact ⟨rfl, HB1.out⟩
      · have i3 : ¬ (255 : Int) < (b.size : Int) := by omega
        by_cases h4 : 16 < p
        · have i4 : (16 : Int) < (p : Int) := by omega
          rw [← hn, ← hpn, ← hqn]
          clear hr hp hq hk hn hpn hqn hc hpc hqc hpc2 hqc2
          go_enter Tryd.func7, Tryd.ntmps7
          go_wp2_with fail
          refine (shown3_any _ (KB.out _ HB0.out)).mono ?_
          rintro e W1 ⟨rfl, hb1⟩
          have HB1 := Lib.hid (bel_call HB0.out hb1 HB0.out.size)
          have hsz1 := HB1.out.size
          clear hb1
          go_wp2
          go_ret
          exact ⟨rfl, HB1.out⟩
        · have i4 : ¬ (16 : Int) < (p : Int) := by omega
          by_cases h5 : 16 < q
          · have i5 : (16 : Int) < (q : Int) := by omega
            rw [← hn, ← hpn, ← hqn]
            clear hr hp hq hk hn hpn hqn hc hpc hqc hpc2 hqc2
            go_enter Tryd.func7, Tryd.ntmps7
            go_wp2_with fail
            refine (shown3_any _ (KB.out _ HB0.out)).mono ?_
            rintro e W1 ⟨rfl, hb1⟩
            have HB1 := Lib.hid (bel_call HB0.out hb1 HB0.out.size)
            have hsz1 := HB1.out.size
            clear hb1
            go_wp2
            go_ret
            exact ⟨rfl, HB1.out⟩
          · have i5 : ¬ (16 : Int) < (q : Int) := by omega
            have L1 := Lib.hid (fun w h1 => long_at 300 (by omega) P ps pc w h1)
            have L2 := Lib.hid (fun w h1 => long_at 300 (by omega) Q qs qc w h1)
            rw [← hpn] at L1
            rw [← hqn] at L2
            by_cases htp : ps.length + tot ps ps.length ≤ 300
            · by_cases htq : qs.length + tot qs qs.length ≤ 300
              · have CD1 := Lib.hid (fun w h1 h2 h3 => derive_ok A P k ps c pc a w (by omega) hc (by omega) (by omega) (by omega) h1 h2 h3)
                have CD2 := Lib.hid (fun w h1 h2 h3 => derive_ok A Q k qs c qc b w (by omega) hc (by omega) (by omega) (by omega) h1 h2 h3)
                have CT1 := Lib.hid (fun w h1 => told_any P ps pc a w (by omega) (by omega) (by omega) h1)
                have CT2 := Lib.hid (fun w h1 => told_any Q qs qc b w (by omega) (by omega) (by omega) h1)
                have hls : (toldF a.data.toList ps).length ≤ 5000 := by
                  have h := told_length a.data.toList ps _ (Nat.le_refl ps.length)
                  rw [str_len] at h
                  unfold toldF
                  omega
                have hlt : (toldF b.data.toList qs).length ≤ 5000 := by
                  have h := told_length b.data.toList qs _ (Nat.le_refl qs.length)
                  rw [str_len] at h
                  unfold toldF
                  omega
                have HINJ := Lib.hid (fun h => told_inj a.data.toList b.data.toList ps qs (by rw [str_len]; omega) (by rw [str_len]; omega) (by omega) (by omega) h)
                have HEQ := Lib.hid (show a = b → ps = qs → toldF a.data.toList ps = toldF b.data.toList qs from fun h1 h2 => by rw [h1, h2])
                obtain ⟨S, hS⟩ : ∃ S, S = toldF a.data.toList ps := ⟨_, rfl⟩
                obtain ⟨T, hT⟩ : ∃ T, T = toldF b.data.toList qs := ⟨_, rfl⟩
                rw [← hS] at CD1 CT1 hls HINJ HEQ
                rw [← hT] at CD2 CT2 hlt HINJ HEQ
                obtain ⟨sn, hsn⟩ : ∃ s, s = S.length := ⟨_, rfl⟩
                obtain ⟨tn, htn⟩ : ∃ s, s = T.length := ⟨_, rfl⟩
                have HSN := Lib.hid hsn
                have HTN := Lib.hid htn
                have CR1 := Lib.hid (fun A' c' w (h0 : sn ≤ c') (h1 : Rd w w.heap.size A k) (h2 : Rd w w.heap.size A' S) => show Calls Tryd.prog 15 #[.slice A k.length c, .slice A' sn c'] w fun e w' => AnsO w.heap.size w' e (tagF k S) ∧ Below w.heap.size w w' from by
                  rw [hsn]
                  exact refTag_any A A' k S c c' w (by omega) (by omega) hc h1 h2)
                have CR2 := Lib.hid (fun A' c' w (h0 : tn ≤ c') (h1 : Rd w w.heap.size A k) (h2 : Rd w w.heap.size A' T) => show Calls Tryd.prog 15 #[.slice A k.length c, .slice A' tn c'] w fun e w' => AnsO w.heap.size w' e (tagF k T) ∧ Below w.heap.size w w' from by
                  rw [htn]
                  exact refTag_any A A' k T c c' w (by omega) (by omega) hc h1 h2)
                have HPN := Lib.hid hpn
                have HQN := Lib.hid hqn
                have HP16 := Lib.hid (show p ≤ 16 by omega)
                have HQ16 := Lib.hid (show q ≤ 16 by omega)
                rw [← hn] at CD1 CD2 CR1 CR2
                rw [← hpn] at CD1 CT1
                rw [← hqn] at CD2 CT2
                clear hS hT hsn htn hls hlt htp htq
                rw [← hn, ← hpn, ← hqn]
                clear hr hp hq hk hn hpn hqn hc hpc hqc hpc2 hqc2
                go_enter Tryd.func7, Tryd.ntmps7
                go_wp2_with fail
                refine (shown3_any _ (KB.out _ HB0.out)).mono ?_
                rintro e W1 ⟨rfl, hb1⟩
                have HB1 := Lib.hid (bel_call HB0.out hb1 HB0.out.size)
                have hsz1 := HB1.out.size
                clear hb1
                go_wp2_with fail
                refine (L1.out _ (RP.out _ HB1.out)).mono ?_
                rintro e W2 ⟨⟨r, rfl, hr4⟩, rfl⟩
                by_cases h6 : r ≤ 300
                · have i6 : ¬ (300 : Int) < r := by omega
                  clear hr4 h6
                  go_wp2_with fail
                  refine (L2.out _ (RQ.out _ HB1.out)).mono ?_
                  rintro e W3 ⟨⟨r2, rfl, hr5⟩, rfl⟩
                  by_cases h7 : r2 ≤ 300
                  · have i7 : ¬ (300 : Int) < r2 := by omega
                    clear hr5 h7
                    go_wp2_with fail
                    refine (CD1.out _ (RA.out _ HB1.out) (RP.out _ HB1.out) (KB.out _ HB1.out)).mono ?_
                    rintro e W4 ⟨⟨A4, c4, rfl, h41, h42, h43⟩, hb4⟩
                    have HB4 := Lib.hid (bel_call HB1.out hb4 hsz1)
                    have HR4 := Lib.hid h43
                    clear h43 hb4
                    go_wp2_with fail
                    refine (CD2.out _ (RA.out _ HB4.out) (RQ.out _ HB4.out) (KB.out _ HB4.out)).mono ?_
                    rintro e W5 ⟨⟨A5, c5, rfl, h51, h52, h53⟩, hb5⟩
                    have HB5 := Lib.hid (bel_call HB4.out hb5 HB4.out.size)
                    have HX5 := Lib.hid ((HR4.out.below hb5 (Nat.le_refl _)).more hb5.size)
                    have HY5 := Lib.hid h53
                    clear h53 hb5 HR4 CD1 CD2
                    by_cases hab : a = b
                    · have hse : (a.toList == b.toList) = true := by rw [hab]; simp
                      by_cases hpq : ps = qs
                      · have HST := Lib.hid (HEQ.out hab hpq)
                        have CRo := Lib.hid (fun w h1 h2 => rows_b P Q ps qs pc qc p q true w HPN.out HQN.out (decide_eq_true hpq) (by rw [← HPN.out]; have := HP16.out; omega) (by rw [← HQN.out]; have := HQ16.out; omega) h1 h2)
                        clear hab hpq
                        go_wp2_with fail
                        refine (CRo.out _ (RP.out _ HB5.out) (RQ.out _ HB5.out)).mono ?_
                        rintro e W6 ⟨rfl, hb6⟩
                        have HB6 := Lib.hid (bel_call HB5.out hb6 HB5.out.size)
                        have HX6 := Lib.hid ((HX5.out.below hb6 (Nat.le_refl _)).more hb6.size)
                        have HY6 := Lib.hid ((HY5.out.below hb6 (Nat.le_refl _)).more hb6.size)
                        clear hb6
                        go_wp2_with fail
                        refine (refSame_g A4 A5 (tagF k S) (tagF k T) c4 c5 32 32 _ true (tagF_length _ _).symm (tagF_length _ _).symm (decide_eq_true (by rw [HST.out])) HX6.out HY6.out).mono ?_
                        rintro e W7 ⟨rfl, rfl⟩
                        go_wp2
                        go_ret
                        exact ⟨rfl, HB6.out⟩
                      · have HNST := Lib.hid (show ¬ S = T from fun h => hpq (HINJ.out h).2)
                        have CRo := Lib.hid (fun w h1 h2 => rows_b P Q ps qs pc qc p q false w HPN.out HQN.out (decide_eq_false hpq) (by rw [← HPN.out]; have := HP16.out; omega) (by rw [← HQN.out]; have := HQ16.out; omega) h1 h2)
                        clear hab hpq
                        go_wp2_with fail
                        refine (CRo.out _ (RP.out _ HB5.out) (RQ.out _ HB5.out)).mono ?_
                        rintro e W6 ⟨rfl, hb6⟩
                        have HBX := Lib.hid (bel_call HB5.out hb6 HB5.out.size)
                        have HX := Lib.hid ((HX5.out.below hb6 (Nat.le_refl _)).more hb6.size)
                        have HY := Lib.hid ((HY5.out.below hb6 (Nat.le_refl _)).more hb6.size)
                        clear hb6
                        go_wp2_with fail
                        refine (CT1.out _ (RP.out _ HBX.out)).mono ?_
                        rintro e V1 ⟨⟨v1, rfl, ho1⟩, hv1⟩
                        obtain ⟨A6, c6, e6, h61, h62, h63⟩ := ho1.form
                        rw [← HSN.out] at e6 h61
                        subst e6
                        have HC1 := Lib.hid (bel_call HBX.out hv1 HBX.out.size)
                        have HX1 := Lib.hid ((HX.out.below hv1 (Nat.le_refl _)).more hv1.size)
                        have HY1 := Lib.hid ((HY.out.below hv1 (Nat.le_refl _)).more hv1.size)
                        have HS1 := Lib.hid h63
                        clear ho1 hv1 h63
                        go_wp2_with fail
                        refine (CT2.out _ (RQ.out _ HC1.out)).mono ?_
                        rintro e V2 ⟨⟨v2, rfl, ho2⟩, hv2⟩
                        obtain ⟨A7, c7, e7, h71, h72, h73⟩ := ho2.form
                        rw [← HTN.out] at e7 h71
                        subst e7
                        have HC2 := Lib.hid (bel_call HC1.out hv2 HC1.out.size)
                        have HX2 := Lib.hid ((HX1.out.below hv2 (Nat.le_refl _)).more hv2.size)
                        have HY2 := Lib.hid ((HY1.out.below hv2 (Nat.le_refl _)).more hv2.size)
                        have HS2 := Lib.hid ((HS1.out.below hv2 (Nat.le_refl _)).more hv2.size)
                        have HT2 := Lib.hid h73
                        clear ho2 hv2 h73 HX1 HY1 HS1
                        go_wp2_with fail
                        refine (refSame_g A6 A7 S T c6 c7 sn tn _ false HSN.out HTN.out (decide_eq_false HNST.out) HS2.out HT2.out).mono ?_
                        rintro e V3 ⟨rfl, rfl⟩
                        by_cases hxy : tagF k S = tagF k T
                        · have HXY := Lib.hid hxy
                          clear hxy
                          go_wp2_with fail
                          refine (refSame_g A4 A5 (tagF k S) (tagF k T) c4 c5 32 32 _ true (tagF_length _ _).symm (tagF_length _ _).symm (decide_eq_true HXY.out) HX2.out HY2.out).mono ?_
                          rintro e V4 ⟨rfl, rfl⟩
                          go_wp2_with fail
                          refine (CR1.out A6 c6 _ h61 (RA.out _ HC2.out) HS2.out).mono ?_
                          rintro e V5 ⟨⟨v5, rfl, ho5⟩, hv5⟩
                          obtain ⟨A8, c8, e8, h81, h82, h83⟩ := ho5.form
                          rw [tagF_length] at e8
                          subst e8
                          have HC5 := Lib.hid (bel_call HC2.out hv5 HC2.out.size)
                          have HT5 := Lib.hid ((HT2.out.below hv5 (Nat.le_refl _)).more hv5.size)
                          have HR8 := Lib.hid h83
                          clear ho5 hv5 h83 h81 h82
                          go_wp2_with fail
                          refine (CR2.out A7 c7 _ h71 (RA.out _ HC5.out) HT5.out).mono ?_
                          rintro e V6 ⟨⟨v6, rfl, ho6⟩, hv6⟩
                          obtain ⟨A9, c9, e9, h91, h92, h93⟩ := ho6.form
                          rw [tagF_length] at e9
                          subst e9
                          have HC6 := Lib.hid (bel_call HC5.out hv6 HC5.out.size)
                          have HR86 := Lib.hid ((HR8.out.below hv6 (Nat.le_refl _)).more hv6.size)
                          have HR9 := Lib.hid h93
                          clear ho6 hv6 h93 h91 h92
                          go_wp2_with fail
                          refine (refSame_g A8 A9 (tagF k S) (tagF k T) c8 c9 32 32 _ true (tagF_length _ _).symm (tagF_length _ _).symm (decide_eq_true HXY.out) HR86.out HR9.out).mono ?_
                          rintro e V7 ⟨rfl, rfl⟩
                          go_wp2
                          go_ret
                          exact ⟨rfl, HC6.out⟩
                        · have HXY := Lib.hid hxy
                          clear hxy
                          go_wp2_with fail
                          refine (refSame_g A4 A5 (tagF k S) (tagF k T) c4 c5 32 32 _ false (tagF_length _ _).symm (tagF_length _ _).symm (decide_eq_false HXY.out) HX2.out HY2.out).mono ?_
                          rintro e V4 ⟨rfl, rfl⟩
                          go_wp2
                          go_ret
                          exact ⟨rfl, HC2.out⟩
                    · have hse : (a.toList == b.toList) = false := strs_ne a b hab
                      have HNST := Lib.hid (show ¬ S = T from fun h => hab (str_inj a b (HINJ.out h).1))
                      have HBX := HB5
                      have HX := HX5
                      have HY := HY5
                      clear hab
                      go_wp2_with fail
                      refine (CT1.out _ (RP.out _ HBX.out)).mono ?_
                      rintro e V1 ⟨⟨v1, rfl, ho1⟩, hv1⟩
                      obtain ⟨A6, c6, e6, h61, h62, h63⟩ := ho1.form
                      rw [← HSN.out] at e6 h61
                      subst e6
                      have HC1 := Lib.hid (bel_call HBX.out hv1 HBX.out.size)
                      have HX1 := Lib.hid ((HX.out.below hv1 (Nat.le_refl _)).more hv1.size)
                      have HY1 := Lib.hid ((HY.out.below hv1 (Nat.le_refl _)).more hv1.size)
                      have HS1 := Lib.hid h63
                      clear ho1 hv1 h63
                      go_wp2_with fail
                      refine (CT2.out _ (RQ.out _ HC1.out)).mono ?_
                      rintro e V2 ⟨⟨v2, rfl, ho2⟩, hv2⟩
                      obtain ⟨A7, c7, e7, h71, h72, h73⟩ := ho2.form
                      rw [← HTN.out] at e7 h71
                      subst e7
                      have HC2 := Lib.hid (bel_call HC1.out hv2 HC1.out.size)
                      have HX2 := Lib.hid ((HX1.out.below hv2 (Nat.le_refl _)).more hv2.size)
                      have HY2 := Lib.hid ((HY1.out.below hv2 (Nat.le_refl _)).more hv2.size)
                      have HS2 := Lib.hid ((HS1.out.below hv2 (Nat.le_refl _)).more hv2.size)
                      have HT2 := Lib.hid h73
                      clear ho2 hv2 h73 HX1 HY1 HS1
                      go_wp2_with fail
                      refine (refSame_g A6 A7 S T c6 c7 sn tn _ false HSN.out HTN.out (decide_eq_false HNST.out) HS2.out HT2.out).mono ?_
                      rintro e V3 ⟨rfl, rfl⟩
                      by_cases hxy : tagF k S = tagF k T
                      · have HXY := Lib.hid hxy
                        clear hxy
                        go_wp2_with fail
                        refine (refSame_g A4 A5 (tagF k S) (tagF k T) c4 c5 32 32 _ true (tagF_length _ _).symm (tagF_length _ _).symm (decide_eq_true HXY.out) HX2.out HY2.out).mono ?_
                        rintro e V4 ⟨rfl, rfl⟩
                        go_wp2_with fail
                        refine (CR1.out A6 c6 _ h61 (RA.out _ HC2.out) HS2.out).mono ?_
                        rintro e V5 ⟨⟨v5, rfl, ho5⟩, hv5⟩
                        obtain ⟨A8, c8, e8, h81, h82, h83⟩ := ho5.form
                        rw [tagF_length] at e8
                        subst e8
                        have HC5 := Lib.hid (bel_call HC2.out hv5 HC2.out.size)
                        have HT5 := Lib.hid ((HT2.out.below hv5 (Nat.le_refl _)).more hv5.size)
                        have HR8 := Lib.hid h83
                        clear ho5 hv5 h83 h81 h82
                        go_wp2_with fail
                        refine (CR2.out A7 c7 _ h71 (RA.out _ HC5.out) HT5.out).mono ?_
                        rintro e V6 ⟨⟨v6, rfl, ho6⟩, hv6⟩
                        obtain ⟨A9, c9, e9, h91, h92, h93⟩ := ho6.form
                        rw [tagF_length] at e9
                        subst e9
                        have HC6 := Lib.hid (bel_call HC5.out hv6 HC5.out.size)
                        have HR86 := Lib.hid ((HR8.out.below hv6 (Nat.le_refl _)).more hv6.size)
                        have HR9 := Lib.hid h93
                        clear ho6 hv6 h93 h91 h92
                        go_wp2_with fail
                        refine (refSame_g A8 A9 (tagF k S) (tagF k T) c8 c9 32 32 _ true (tagF_length _ _).symm (tagF_length _ _).symm (decide_eq_true HXY.out) HR86.out HR9.out).mono ?_
                        rintro e V7 ⟨rfl, rfl⟩
                        go_wp2
                        go_ret
                        exact ⟨rfl, HC6.out⟩
                      · have HXY := Lib.hid hxy
                        clear hxy
                        go_wp2_with fail
                        refine (refSame_g A4 A5 (tagF k S) (tagF k T) c4 c5 32 32 _ false (tagF_length _ _).symm (tagF_length _ _).symm (decide_eq_false HXY.out) HX2.out HY2.out).mono ?_
                        rintro e V4 ⟨rfl, rfl⟩
                        go_wp2
                        go_ret
                        exact ⟨rfl, HC2.out⟩
                  · have i7 : (300 : Int) < r2 := by omega
                    clear hr5 h7
                    go_wp2
                    go_ret
                    exact ⟨rfl, HB1.out⟩
                · have i6 : (300 : Int) < r := by omega
                  clear hr4 h6
                  go_wp2
                  go_ret
                  exact ⟨rfl, HB1.out⟩
              · have HTQ := Lib.hid htq
                rw [← hn, ← hpn, ← hqn]
                clear hr hp hq hk hn hpn hqn hc hpc hqc hpc2 hqc2
                clear htp htq
                go_enter Tryd.func7, Tryd.ntmps7
                go_wp2_with fail
                refine (shown3_any _ (KB.out _ HB0.out)).mono ?_
                rintro e W1 ⟨rfl, hb1⟩
                have HB1 := Lib.hid (bel_call HB0.out hb1 HB0.out.size)
                have hsz1 := HB1.out.size
                clear hb1
                go_wp2_with fail
                refine (L1.out _ (RP.out _ HB1.out)).mono ?_
                rintro e W2 ⟨⟨r, rfl, hr4⟩, rfl⟩
                by_cases h6 : r ≤ 300
                · have i6 : ¬ (300 : Int) < r := by omega
                  clear hr4 h6
                  go_wp2_with fail
                  refine (L2.out _ (RQ.out _ HB1.out)).mono ?_
                  rintro e W3 ⟨⟨r2, rfl, hr5⟩, rfl⟩
                  have i7 : (300 : Int) < r2 := by
                    by_cases h5 : r2 ≤ 300
                    · exact absurd (hr5 h5) HTQ.out
                    · omega
                  clear hr5
                  go_wp2
                  go_ret
                  exact ⟨rfl, HB1.out⟩
                · have i6 : (300 : Int) < r := by omega
                  clear hr4 h6
                  go_wp2
                  go_ret
                  exact ⟨rfl, HB1.out⟩
            · have HTP := Lib.hid htp
              rw [← hn, ← hpn, ← hqn]
              clear hr hp hq hk hn hpn hqn hc hpc hqc hpc2 hqc2
              clear htp
              go_enter Tryd.func7, Tryd.ntmps7
              go_wp2_with fail
              refine (shown3_any _ (KB.out _ HB0.out)).mono ?_
              rintro e W1 ⟨rfl, hb1⟩
              have HB1 := Lib.hid (bel_call HB0.out hb1 HB0.out.size)
              have hsz1 := HB1.out.size
              clear hb1
              go_wp2_with fail
              refine (L1.out _ (RP.out _ HB1.out)).mono ?_
              rintro e W2 ⟨⟨r, rfl, hr4⟩, rfl⟩
              have i6 : (300 : Int) < r := by
                by_cases h5 : r ≤ 300
                · exact absurd (hr4 h5) HTP.out
                · omega
              clear hr4
              go_wp2
              go_ret
              exact ⟨rfl, HB1.out⟩
end Go.Proofs.YtgabcbifefokkaaDoor
