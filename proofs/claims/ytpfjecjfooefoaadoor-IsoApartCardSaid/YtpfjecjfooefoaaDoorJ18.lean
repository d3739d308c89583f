
/- The document's answer: Write. -/
import Derived.Test.YtpfjecjfooefoaaDoorJ14
namespace Go.Proofs.YtpfjecjfooefoaaDoor
open Go.RowKit

set_option maxRecDepth 100000 in
theorem refBcd_fig (s : List UInt8) (h : allFig s = true) (hs : s.length ≤ 1000000) (W : World) :
    Calls Tryd.prog 44 #[.string ⟨s.toArray⟩] W fun e W' => Ans W' e (packL gFig s) (packL gFig s).length (.int .i64 0) ∧ Below W.heap.size W W' := by
  have h3 := refBcd_any ⟨s.toArray⟩ W (by simpa [ByteArray.size] using hs)
  rw [show (⟨s.toArray⟩ : ByteArray).data.toList = s from rfl] at h3
  rw [show bcdL s = packL gFig s by unfold bcdL; rw [if_pos h], show bcdE s = 0 by unfold bcdE; rw [if_pos h]] at h3
  exact h3
set_option maxRecDepth 100000 in
theorem refDigits_fig (m q : Nat) (h1 : 1 ≤ q) (h2 : q ≤ 18) (h3 : m < 10 ^ q) (hm : m ≤ 9223372036854775807) (W : World) :
    Calls Tryd.prog 81 #[.int .i64 (m : Int), .int .i64 (q : Int)] W fun e W' => e = .returned (.tuple #[.string ⟨(dgL 48 10 m q).toArray⟩, .int .i64 0]) ∧ Below W.heap.size W W' := by
  have h := refDigits_any (m : Int) (q : Int) W (by omega)
  have e : digOk (m : Int) (q : Int) = true := by simp [digOk]; omega
  rw [show digL (m : Int) (q : Int) = dgL 48 10 m q by unfold digL; rw [if_pos e]; rfl, show digE (m : Int) (q : Int) = 0 by unfold digE; rw [if_pos e]] at h
  exact h

set_option maxRecDepth 100000 in
set_option maxHeartbeats 4000000 in
theorem refWrite_any (no : Int) (A : Option Addr) (v : List UInt8) (c : Nat) (W : World) (hl : v.length ≤ 100000) (hc : v.length ≤ c) (_hcm : c ≤ 9223372036854775807) (hr : Rd W W.heap.size A v) :
    Calls Tryd.prog 42 #[.int .i64 no, .slice A v.length c] W fun e W' => Ans W' e (writeL no v) (writeL no v).length (.int .i64 (writeE no v)) ∧ Below W.heap.size W W' := by
  have CO := Lib.hid (refOf_any no)
  have CF := Lib.hid (fun w (h : Below W.heap.size W w) => refFits_any (fk no) (fl no) A v c w (form_le no).1 (by have := (form_le no).2; omega) (by omega) ((hr.below h (Nat.le_refl _)).more h.size))
  have CC := Lib.hid (refCount_any (fk no) (form_le no).1)
  have HU := Lib.hid (show fitF (fk no) (fl no) v = fitsF no v from rfl)
  rw [HU.out] at CF
  by_cases hk : fk no = 0
  · have HE := Lib.hid (show writeE no v = 12 by unfold writeE; rw [if_pos hk])
    have HL := Lib.hid (show writeL no v = [] by unfold writeL; rw [fits_none hk]; rfl)
    have e0 : decide (fk no ≠ 0) = false := decide_eq_false (by omega)
    rw [e0] at CO
    rw [HE.out, HL.out]
    clear e0 hk CF CC HU hr hl hc _hcm HE HL
    generalize fk no = k at *
    generalize fl no = n at *
    generalize v.length = m at *
    go_enter Tryd.func42, Tryd.ntmps42
    go_wp2_with fail
    refine (CO.out _).mono ?_
    rintro e w1 ⟨rfl, hb⟩
    have HB := Lib.hid (hb.alloc hb.size (.cells #[.int .i64 (k : Int), .int .i64 (n : Int)] 95))
    clear hb CO
    go_wp2
    go_ret2
    exact ⟨⟨none, 0, rfl, Nat.le_refl _, by omega, Rd.nil⟩, HB.out⟩
  have e0 : decide (fk no ≠ 0) = true := decide_eq_true hk
  rw [e0] at CO
  cases hfit : fitsF no v with
  | false =>
    have HE := Lib.hid (show writeE no v = 1 by unfold writeE; rw [if_neg hk, hfit]; rfl)
    have HL := Lib.hid (show writeL no v = [] by unfold writeL; rw [hfit]; rfl)
    rw [hfit] at CF
    rw [HE.out, HL.out]
    clear e0 hk CC HU hr hl hc _hcm HE HL hfit
    generalize fk no = k at *
    generalize fl no = n at *
    generalize v.length = m at *
    go_enter Tryd.func42, Tryd.ntmps42
    go_wp2_with fail
    refine (CO.out _).mono ?_
    rintro e w1 ⟨rfl, hb⟩
    have HB := Lib.hid (hb.alloc hb.size (.cells #[.int .i64 (k : Int), .int .i64 (n : Int)] 95))
    clear hb CO
    go_wp2_with fail
    refine (CF.out _ HB.out).mono ?_
    rintro e w2 ⟨rfl, hb⟩
    have HB2 := Lib.hid (bel5 HB.out hb HB.out.size)
    clear hb CF HB
    go_wp2
    go_ret2
    exact ⟨⟨none, 0, rfl, Nat.le_refl _, by omega, Rd.nil⟩, HB2.out⟩
  | true =>
    have HE := Lib.hid (show writeE no v = 0 by unfold writeE; rw [if_neg hk, if_pos hfit])
    have HL := Lib.hid (show writeL no v = headF (fk no) v.length ++ bodyF (fk no) v by unfold writeL; rw [if_pos hfit]; rfl)
    rw [hfit] at CF
    rw [HE.out, HL.out]
    obtain ⟨z1, z2, z3, z4, z5⟩ := fits_some hfit
    have RV := Lib.hid (fun w (h : Below W.heap.size W w) => (hr.below h (Nat.le_refl _)).more h.size)
    have hq3 := cnt_le (fk no)
    have HHL := Lib.hid (head_length (fk no) v.length)
    have hst := fun w (h : Below W.heap.size W w) => run_str (P := Tryd.prog) ((hr.below h (Nat.le_refl _)).more h.size) c _ _ _ Tryd.underlying27 Tryd.underlying5 Tryd.underlying9
    have HST := Lib.hid hst
    have CB2 := Lib.hid (fun (h : fk no ≤ 2) w => refBcd_fig v (fit_fig hfit h) (by omega) w)
    have HB1 := Lib.hid (fun (h : fk no ≤ 2) => (show bodyF (fk no) v = packL gFig v by unfold bodyF; rw [if_pos h]))
    have HB2 := Lib.hid (fun (h : ¬ fk no ≤ 2) => (show bodyF (fk no) v = v by unfold bodyF; rw [if_neg h]))
    have HPL := Lib.hid (show (packL gFig v).length ≤ 100000 by rw [packL_length]; omega)
    have HD1 := Lib.hid (fun (h : 0 < cntF (fk no)) w => refDigits_fig v.length (cntF (fk no)) h (by omega) (cnt_room hfit h) (by omega) w)
    have HD2 := Lib.hid (fun (h : 0 < cntF (fk no)) w => (show Calls Tryd.prog 44 #[.string ⟨(dgL 48 10 v.length (cntF (fk no))).toArray⟩] w fun e w' => Ans w' e (headF (fk no) v.length) (headF (fk no) v.length).length (.int .i64 0) ∧ Below w.heap.size w w' from by
      have e : headF (fk no) v.length = packL gFig (dgL 48 10 v.length (cntF (fk no))) := by unfold headF; rw [if_pos h]
      rw [e]
      exact refBcd_fig _ (dgL_fig _ _) (by rw [dgL_length]; omega) w))
    have HD3 := Lib.hid (fun (h : ¬ 0 < cntF (fk no)) => (show headF (fk no) v.length = [] by unfold headF; rw [if_neg h]))
    have HHB := Lib.hid (show (headF (fk no) v.length).length ≤ 2 by rw [head_length]; omega)
    have HVL := Lib.hid hl
    obtain ⟨m, hm⟩ : ∃ m, m = v.length := ⟨_, rfl⟩
    rw [← hm] at CF HD1 HD2 HD3 HHB HHL hst HST ⊢
    have HM := Lib.hid hm
    have m3 : m ≤ 100000 := by omega
    have hcm' : m ≤ c := by omega
    clear e0 hk HU hr hc HE HL hfit z1 z2 z3 z4 z5 hm hst HHL hl
    generalize headF (fk no) m = H at *
    generalize dgL 48 10 m (cntF (fk no)) = S1 at *
    generalize cntF (fk no) = q at *
    generalize fk no = k at *
    generalize fl no = n at *
    generalize bodyF k v = P at *
    obtain ⟨hn, hhn⟩ : ∃ x, x = H.length := ⟨_, rfl⟩
    have HHN := Lib.hid hhn
    rw [← hhn] at HD2 HHB
    clear hhn
    by_cases hq0 : 0 < q
    · by_cases hk2 : k ≤ 2
      · have i1 : (k : Int) ≤ 2 := by omega
        have HHL2 := Lib.hid (show H.length ≤ 2 by rw [← HHN.out]; exact HHB.out)
        rw [HB1.out hk2]
        obtain ⟨L, hL⟩ : ∃ L, L = H ++ packL gFig v := ⟨_, rfl⟩
        rw [← hL]
        have HLL := Lib.hid hL
        clear hL
        have i2 : (0 : Int) < (q : Int) := by omega
        go_enter Tryd.func42, Tryd.ntmps42
        go_wp2_with fail
        refine (CO.out _).mono ?_
        rintro e w1 ⟨rfl, hb⟩
        obtain ⟨V1, hV1⟩ : ∃ V, V = w1.alloc (.cells #[.int .i64 (k : Int), .int .i64 (n : Int)] 95) := ⟨_, rfl⟩
        have hbv : Below W.heap.size W V1 := by rw [hV1]; exact hb.alloc hb.size _
        have hg := heap_alloc_new w1 (.cells #[.int .i64 (k : Int), .int .i64 (n : Int)] 95)
        rw [← hV1] at hg
        obtain ⟨g, hgg⟩ : ∃ g, g = w1.heap.size := ⟨_, rfl⟩
        rw [← hgg] at hg
        have HB := Lib.hid hbv
        have HV1 := Lib.hid hV1
        have HGG := Lib.hid hgg
        have HG := Lib.hid hg
        obtain ⟨x0, x1⟩ := cells2 hg
        rw [hV1] at x0 x1
        clear hb hbv hV1 hgg hg CO
        go_wp2_with fail
        (try rw [← HV1.out])
        (try rw [← HGG.out])
        clear x0 x1
        refine (CF.out _ HB.out).mono ?_
        rintro e w2 ⟨rfl, hb⟩
        have HBB := Lib.hid (bel5 HB.out hb HB.out.size)
        have hg2 := old5 HG.out hb (Nat.le_refl _)
        have HG2 := Lib.hid hg2
        obtain ⟨x0, x1⟩ := cells2 hg2
        clear hb CF HB HG HV1 HGG hg2
        go_wp2_with fail
        refine (CC.out _).mono ?_
        rintro e w3 ⟨rfl, rfl⟩
        go_wp2_with fail
        refine (CC.out _).mono ?_
        rintro e w3 ⟨rfl, rfl⟩
        go_wp2_with fail
        refine (HD1.out hq0 _).mono ?_
        rintro e w4 ⟨rfl, hb⟩
        have HB4 := Lib.hid (bel5 HBB.out hb HBB.out.size)
        have HG4 := Lib.hid (old5 HG2.out hb (Nat.le_refl _))
        clear hb HBB HG2 x0 x1
        go_wp2_with fail
        refine (HD2.out hq0 _).mono ?_
        rintro e w5' ⟨⟨Ah, ch, rfl, ah1, ah2, ah3⟩, hb⟩
        have HB7 := Lib.hid (bel5 HB4.out hb HB4.out.size)
        have hg7 := old5 HG4.out hb (Nat.le_refl _)
        have HG7 := Lib.hid hg7
        obtain ⟨x0, x1⟩ := cells2 hg7
        have RH := Lib.hid ah3
        clear hb HB4 HG4 hg7 ah3
        obtain ⟨WX, hWX⟩ : ∃ x, x = w5' := ⟨_, rfl⟩
        rw [← hWX] at HB7 RH x0 x1 ⊢
        have HBX := HB7
        have RHX := RH
        clear hWX
        have hst := HST.out _ HBX.out
        go_wp2_with fail
        refine (CB2.out hk2 _).mono ?_
        rintro e w8 ⟨⟨Ap, cp, rfl, ap1, ap2, ap3⟩, hb⟩
        have HB8 := Lib.hid (bel5 HBX.out hb HBX.out.size)
        have RP := Lib.hid ap3
        have RH8 := Lib.hid ((RHX.out.below hb (Nat.le_refl _)).more hb.size)
        clear hb hst ap3 x0 x1
        go_wp2_with (first
          | (at_builtin; refine wpList_appS _ rfl (.tmp 57) (.tmp 58) rfl w8.heap.size _ [] H rfl (by exact Ow.made0 w8 (Nat.le_refl _)) _ _ _ _ rfl HHN.out (by exact (RH8.out).below ((Below.refl w8.heap.size w8).alloc (Nat.le_refl _) _) (Nat.le_refl _)) (by have := HHL2.out; show 0 + List.length H ≤ 100000000; omega) (by exact le_alloc (Nat.le_refl _) _) ?_; intro v5 w5 hown5 hgrow5; have hb5 := Ow.below (w0 := w8) (by exact Ow.made0 w8 (Nat.le_refl _)) (by exact (Below.refl w8.heap.size w8).alloc (Nat.le_refl _) _) hgrow5 (by exact le_alloc (Nat.le_refl _) _); have HB5 := Lib.hid hb5; rw [List.nil_append] at hown5; have HO5 := Lib.hid hown5; clear hown5 hgrow5 hb5)
          | (at_builtin; refine wpList_appS _ rfl (.tmp 59) (.tmp 60) rfl w8.heap.size _ H (packL gFig v) rfl HO5.out _ _ _ _ rfl rfl (by exact (RP.out).below HB5.out (Nat.le_refl _)) (by have := HHL2.out; have := HPL.out; omega) (by exact HB5.out.size) ?_; intro v6 w6 hown6 hgrow6; have hb6 := Ow.below HO5.out HB5.out hgrow6 HB5.out.size; have HB6 := Lib.hid (bel5 HB8.out hb6 (HB8.out).size); rw [← HLL.out] at hown6; obtain ⟨A6, c6, e6, q1, q2, q3⟩ := hown6.form; subst e6; have Q1 := Lib.hid q1; have Q2 := Lib.hid q2; have Q3 := Lib.hid q3; clear hown6 hgrow6 hb6 q1 q2 q3))
        go_ret2
        exact ⟨⟨A6, c6, rfl, Q1.out, Q2.out, Q3.out⟩, HB6.out⟩
      · have i1 : ¬ (k : Int) ≤ 2 := by omega
        have HHL2 := Lib.hid (show H.length ≤ 2 by rw [← HHN.out]; exact HHB.out)
        rw [HB2.out hk2]
        obtain ⟨L, hL⟩ : ∃ L, L = H ++ v := ⟨_, rfl⟩
        rw [← hL]
        have HLL := Lib.hid hL
        clear hL
        have i2 : (0 : Int) < (q : Int) := by omega
        go_enter Tryd.func42, Tryd.ntmps42
        go_wp2_with fail
        refine (CO.out _).mono ?_
        rintro e w1 ⟨rfl, hb⟩
        obtain ⟨V1, hV1⟩ : ∃ V, V = w1.alloc (.cells #[.int .i64 (k : Int), .int .i64 (n : Int)] 95) := ⟨_, rfl⟩
        have hbv : Below W.heap.size W V1 := by rw [hV1]; exact hb.alloc hb.size _
        have hg := heap_alloc_new w1 (.cells #[.int .i64 (k : Int), .int .i64 (n : Int)] 95)
        rw [← hV1] at hg
        obtain ⟨g, hgg⟩ : ∃ g, g = w1.heap.size := ⟨_, rfl⟩
        rw [← hgg] at hg
        have HB := Lib.hid hbv
        have HV1 := Lib.hid hV1
        have HGG := Lib.hid hgg
        have HG := Lib.hid hg
        obtain ⟨x0, x1⟩ := cells2 hg
        rw [hV1] at x0 x1
        clear hb hbv hV1 hgg hg CO
        go_wp2_with fail
        (try rw [← HV1.out])
        (try rw [← HGG.out])
        clear x0 x1
        refine (CF.out _ HB.out).mono ?_
        rintro e w2 ⟨rfl, hb⟩
        have HBB := Lib.hid (bel5 HB.out hb HB.out.size)
        have hg2 := old5 HG.out hb (Nat.le_refl _)
        have HG2 := Lib.hid hg2
        obtain ⟨x0, x1⟩ := cells2 hg2
        clear hb CF HB HG HV1 HGG hg2
        go_wp2_with fail
        refine (CC.out _).mono ?_
        rintro e w3 ⟨rfl, rfl⟩
        go_wp2_with fail
        refine (CC.out _).mono ?_
        rintro e w3 ⟨rfl, rfl⟩
        go_wp2_with fail
        refine (HD1.out hq0 _).mono ?_
        rintro e w4 ⟨rfl, hb⟩
        have HB4 := Lib.hid (bel5 HBB.out hb HBB.out.size)
        have HG4 := Lib.hid (old5 HG2.out hb (Nat.le_refl _))
        clear hb HBB HG2 x0 x1
        go_wp2_with fail
        refine (HD2.out hq0 _).mono ?_
        rintro e w5' ⟨⟨Ah, ch, rfl, ah1, ah2, ah3⟩, hb⟩
        have HB7 := Lib.hid (bel5 HB4.out hb HB4.out.size)
        have hg7 := old5 HG4.out hb (Nat.le_refl _)
        have HG7 := Lib.hid hg7
        obtain ⟨x0, x1⟩ := cells2 hg7
        have RH := Lib.hid ah3
        clear hb HB4 HG4 hg7 ah3
        obtain ⟨WX, hWX⟩ : ∃ x, x = w5' := ⟨_, rfl⟩
        rw [← hWX] at HB7 RH x0 x1 ⊢
        have HBX := HB7
        have RHX := RH
        clear hWX
        go_wp2_with (first
          | (at_builtin; refine wpList_appS _ rfl (.tmp 57) (.tmp 58) rfl WX.heap.size _ [] H rfl (by exact Ow.made0 WX (Nat.le_refl _)) _ _ _ _ rfl HHN.out (by exact (RHX.out).below ((Below.refl WX.heap.size WX).alloc (Nat.le_refl _) _) (Nat.le_refl _)) (by have := HHL2.out; show 0 + List.length H ≤ 100000000; omega) (by exact le_alloc (Nat.le_refl _) _) ?_; intro v5 w5 hown5 hgrow5; have hb5 := Ow.below (w0 := WX) (by exact Ow.made0 WX (Nat.le_refl _)) (by exact (Below.refl WX.heap.size WX).alloc (Nat.le_refl _) _) hgrow5 (by exact le_alloc (Nat.le_refl _) _); have HB5 := Lib.hid hb5; rw [List.nil_append] at hown5; have HO5 := Lib.hid hown5; clear hown5 hgrow5 hb5)
          | (at_builtin; refine wpList_appS _ rfl (.tmp 59) (.tmp 60) rfl WX.heap.size _ H v rfl HO5.out _ _ _ _ rfl HM.out (by exact ((RV.out WX HBX.out)).below HB5.out (Nat.le_refl _)) (by have := HHL2.out; have := HVL.out; omega) (by exact HB5.out.size) ?_; intro v6 w6 hown6 hgrow6; have hb6 := Ow.below HO5.out HB5.out hgrow6 HB5.out.size; have HB6 := Lib.hid (bel5 HBX.out hb6 (HBX.out).size); rw [← HLL.out] at hown6; obtain ⟨A6, c6, e6, q1, q2, q3⟩ := hown6.form; subst e6; have Q1 := Lib.hid q1; have Q2 := Lib.hid q2; have Q3 := Lib.hid q3; clear hown6 hgrow6 hb6 q1 q2 q3))
        go_ret2
        exact ⟨⟨A6, c6, rfl, Q1.out, Q2.out, Q3.out⟩, HB6.out⟩
    · by_cases hk2 : k ≤ 2
      · have i1 : (k : Int) ≤ 2 := by omega
        have HHL2 := Lib.hid (show H.length ≤ 2 by rw [← HHN.out]; exact HHB.out)
        rw [HB1.out hk2]
        obtain ⟨L, hL⟩ : ∃ L, L = H ++ packL gFig v := ⟨_, rfl⟩
        rw [← hL]
        have HLL := Lib.hid hL
        clear hL
        have i2 : ¬ (0 : Int) < (q : Int) := by omega
        have hH := HD3.out hq0
        subst hH
        have hh0 : hn = 0 := HHN.out
        subst hh0
        go_enter Tryd.func42, Tryd.ntmps42
        go_wp2_with fail
        refine (CO.out _).mono ?_
        rintro e w1 ⟨rfl, hb⟩
        obtain ⟨V1, hV1⟩ : ∃ V, V = w1.alloc (.cells #[.int .i64 (k : Int), .int .i64 (n : Int)] 95) := ⟨_, rfl⟩
        have hbv : Below W.heap.size W V1 := by rw [hV1]; exact hb.alloc hb.size _
        have hg := heap_alloc_new w1 (.cells #[.int .i64 (k : Int), .int .i64 (n : Int)] 95)
        rw [← hV1] at hg
        obtain ⟨g, hgg⟩ : ∃ g, g = w1.heap.size := ⟨_, rfl⟩
        rw [← hgg] at hg
        have HB := Lib.hid hbv
        have HV1 := Lib.hid hV1
        have HGG := Lib.hid hgg
        have HG := Lib.hid hg
        obtain ⟨x0, x1⟩ := cells2 hg
        rw [hV1] at x0 x1
        clear hb hbv hV1 hgg hg CO
        go_wp2_with fail
        (try rw [← HV1.out])
        (try rw [← HGG.out])
        clear x0 x1
        refine (CF.out _ HB.out).mono ?_
        rintro e w2 ⟨rfl, hb⟩
        have HBB := Lib.hid (bel5 HB.out hb HB.out.size)
        have hg2 := old5 HG.out hb (Nat.le_refl _)
        have HG2 := Lib.hid hg2
        obtain ⟨x0, x1⟩ := cells2 hg2
        clear hb CF HB HG HV1 HGG hg2
        go_wp2_with fail
        refine (CC.out _).mono ?_
        rintro e w3 ⟨rfl, rfl⟩
        obtain ⟨WX, hWX⟩ : ∃ x, x = w2 := ⟨_, rfl⟩
        rw [← hWX] at HBB x0 x1 ⊢
        have HBX := HBB
        have RHX := Lib.hid (show Rd WX WX.heap.size none [] from Rd.nil)
        clear hWX
        have hst := HST.out _ HBX.out
        go_wp2_with fail
        refine (CB2.out hk2 _).mono ?_
        rintro e w8 ⟨⟨Ap, cp, rfl, ap1, ap2, ap3⟩, hb⟩
        have HB8 := Lib.hid (bel5 HBX.out hb HBX.out.size)
        have RP := Lib.hid ap3
        have RH8 := Lib.hid ((RHX.out.below hb (Nat.le_refl _)).more hb.size)
        clear hb hst ap3 x0 x1
        go_wp2_with (first
          | (at_builtin; refine wpList_appS _ rfl (.tmp 57) (.tmp 58) rfl w8.heap.size _ [] [] rfl (by exact Ow.made0 w8 (Nat.le_refl _)) _ _ _ _ rfl HHN.out (by exact (RH8.out).below ((Below.refl w8.heap.size w8).alloc (Nat.le_refl _) _) (Nat.le_refl _)) (by have := HHL2.out; show 0 + List.length [] ≤ 100000000; omega) (by exact le_alloc (Nat.le_refl _) _) ?_; intro v5 w5 hown5 hgrow5; have hb5 := Ow.below (w0 := w8) (by exact Ow.made0 w8 (Nat.le_refl _)) (by exact (Below.refl w8.heap.size w8).alloc (Nat.le_refl _) _) hgrow5 (by exact le_alloc (Nat.le_refl _) _); have HB5 := Lib.hid hb5; rw [List.nil_append] at hown5; have HO5 := Lib.hid hown5; clear hown5 hgrow5 hb5)
          | (at_builtin; refine wpList_appS _ rfl (.tmp 59) (.tmp 60) rfl w8.heap.size _ [] (packL gFig v) rfl HO5.out _ _ _ _ rfl rfl (by exact (RP.out).below HB5.out (Nat.le_refl _)) (by have := HHL2.out; have := HPL.out; omega) (by exact HB5.out.size) ?_; intro v6 w6 hown6 hgrow6; have hb6 := Ow.below HO5.out HB5.out hgrow6 HB5.out.size; have HB6 := Lib.hid (bel5 HB8.out hb6 (HB8.out).size); rw [← HLL.out] at hown6; obtain ⟨A6, c6, e6, q1, q2, q3⟩ := hown6.form; subst e6; have Q1 := Lib.hid q1; have Q2 := Lib.hid q2; have Q3 := Lib.hid q3; clear hown6 hgrow6 hb6 q1 q2 q3))
        go_ret2
        exact ⟨⟨A6, c6, rfl, Q1.out, Q2.out, Q3.out⟩, HB6.out⟩
      · have i1 : ¬ (k : Int) ≤ 2 := by omega
        have HHL2 := Lib.hid (show H.length ≤ 2 by rw [← HHN.out]; exact HHB.out)
        rw [HB2.out hk2]
        obtain ⟨L, hL⟩ : ∃ L, L = H ++ v := ⟨_, rfl⟩
        rw [← hL]
        have HLL := Lib.hid hL
        clear hL
        have i2 : ¬ (0 : Int) < (q : Int) := by omega
        have hH := HD3.out hq0
        subst hH
        have hh0 : hn = 0 := HHN.out
        subst hh0
        go_enter Tryd.func42, Tryd.ntmps42
        go_wp2_with fail
        refine (CO.out _).mono ?_
        rintro e w1 ⟨rfl, hb⟩
        obtain ⟨V1, hV1⟩ : ∃ V, V = w1.alloc (.cells #[.int .i64 (k : Int), .int .i64 (n : Int)] 95) := ⟨_, rfl⟩
        have hbv : Below W.heap.size W V1 := by rw [hV1]; exact hb.alloc hb.size _
        have hg := heap_alloc_new w1 (.cells #[.int .i64 (k : Int), .int .i64 (n : Int)] 95)
        rw [← hV1] at hg
        obtain ⟨g, hgg⟩ : ∃ g, g = w1.heap.size := ⟨_, rfl⟩
        rw [← hgg] at hg
        have HB := Lib.hid hbv
        have HV1 := Lib.hid hV1
        have HGG := Lib.hid hgg
        have HG := Lib.hid hg
        obtain ⟨x0, x1⟩ := cells2 hg
        rw [hV1] at x0 x1
        clear hb hbv hV1 hgg hg CO
        go_wp2_with fail
        (try rw [← HV1.out])
        (try rw [← HGG.out])
        clear x0 x1
        refine (CF.out _ HB.out).mono ?_
        rintro e w2 ⟨rfl, hb⟩
        have HBB := Lib.hid (bel5 HB.out hb HB.out.size)
        have hg2 := old5 HG.out hb (Nat.le_refl _)
        have HG2 := Lib.hid hg2
        obtain ⟨x0, x1⟩ := cells2 hg2
        clear hb CF HB HG HV1 HGG hg2
        go_wp2_with fail
        refine (CC.out _).mono ?_
        rintro e w3 ⟨rfl, rfl⟩
        obtain ⟨WX, hWX⟩ : ∃ x, x = w2 := ⟨_, rfl⟩
        rw [← hWX] at HBB x0 x1 ⊢
        have HBX := HBB
        have RHX := Lib.hid (show Rd WX WX.heap.size none [] from Rd.nil)
        clear hWX
        go_wp2_with (first
          | (at_builtin; refine wpList_appS _ rfl (.tmp 57) (.tmp 58) rfl WX.heap.size _ [] [] rfl (by exact Ow.made0 WX (Nat.le_refl _)) _ _ _ _ rfl HHN.out (by exact (RHX.out).below ((Below.refl WX.heap.size WX).alloc (Nat.le_refl _) _) (Nat.le_refl _)) (by have := HHL2.out; show 0 + List.length [] ≤ 100000000; omega) (by exact le_alloc (Nat.le_refl _) _) ?_; intro v5 w5 hown5 hgrow5; have hb5 := Ow.below (w0 := WX) (by exact Ow.made0 WX (Nat.le_refl _)) (by exact (Below.refl WX.heap.size WX).alloc (Nat.le_refl _) _) hgrow5 (by exact le_alloc (Nat.le_refl _) _); have HB5 := Lib.hid hb5; rw [List.nil_append] at hown5; have HO5 := Lib.hid hown5; clear hown5 hgrow5 hb5)
          | (at_builtin; refine wpList_appS _ rfl (.tmp 59) (.tmp 60) rfl WX.heap.size _ [] v rfl HO5.out _ _ _ _ rfl HM.out (by exact ((RV.out WX HBX.out)).below HB5.out (Nat.le_refl _)) (by have := HHL2.out; have := HVL.out; omega) (by exact HB5.out.size) ?_; intro v6 w6 hown6 hgrow6; have hb6 := Ow.below HO5.out HB5.out hgrow6 HB5.out.size; have HB6 := Lib.hid (bel5 HBX.out hb6 (HBX.out).size); rw [← HLL.out] at hown6; obtain ⟨A6, c6, e6, q1, q2, q3⟩ := hown6.form; subst e6; have Q1 := Lib.hid q1; have Q2 := Lib.hid q2; have Q3 := Lib.hid q3; clear hown6 hgrow6 hb6 q1 q2 q3))
        go_ret2
        exact ⟨⟨A6, c6, rfl, Q1.out, Q2.out, Q3.out⟩, HB6.out⟩
end Go.Proofs.YtpfjecjfooefoaaDoor
