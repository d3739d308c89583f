
/- field.Read. -/
import Derived.Test.YtpfjecjfooefoaaDoorJ33
import Derived.Test.YtpfjecjfooefoaaDoorJ23
namespace Go.Proofs.YtpfjecjfooefoaaDoor
open Go.RowKit

set_option maxRecDepth 100000 in
theorem readB_code (k n : Nat) (b : List UInt8) (q m : Nat) (hm : m ≤ 999) (hq : q ≤ b.length) :
    readB k n b q m = if (tiF k b q m).2.2 = 0 then (if fitF k n (tiF k b q m).1 = true then ((tiF k b q m).1, (tiF k b q m).2.1, 0) else ([], 0, 2)) else ([], 0, (tiF k b q m).2.2) := by
  unfold readB tiF sizeF
  by_cases hk : k ≤ 2
  · simp only [if_pos hk]
    by_cases hs : b.length < q + (m + 1) / 2
    · rw [if_pos hs]
      have h3 := (tbS_err b q m hm hq).1 hs
      rw [h3, if_neg (by decide)]
    · rw [if_neg hs]
      by_cases h0 : (tbS b q m).2.2 = 0
      · rw [if_pos h0, if_pos h0, (tbS_ok b q m h0).2.1]
      · rw [if_neg h0, if_neg h0]
        have h2 : (tbS b q m).2.2 = 2 := by
          revert h0
          unfold tbS
          simp only [Int.toNat_natCast]
          rw [if_neg (by omega), if_neg hs]
          split
          · intro h; exact absurd rfl h
          · intro; rfl
        rw [h2]
  · simp only [if_neg hk]
    by_cases hs : b.length < q + m
    · rw [if_pos hs, if_pos hs]
      rfl
    · rw [if_neg hs, if_neg hs]
      rfl
set_option maxRecDepth 100000 in
theorem tcF_ok (k n : Nat) (b : List UInt8) (p : Nat) (hn : n ≤ 400) (hp : p ≤ b.length) (h : (tcF k n b p).2.2 = 0) :
    ∃ m q : Nat, (tcF k n b p).1 = (m : Int) ∧ (tcF k n b p).2.1 = (q : Int) ∧ m ≤ 999 ∧ q ≤ b.length ∧ readH k n b p = readB k n b q m := by
  unfold tcF at h ⊢
  unfold readH
  by_cases hc : 0 < cntF k
  · rw [if_pos hc] at h
    simp only [if_pos hc] at h ⊢
    by_cases h0 : (tbS b p (cntF k : Nat)).2.2 = 0
    · simp only [if_pos h0] at h ⊢
      have hl : lenF k n (val (tbS b p (cntF k : Nat)).1) = (decide (1 ≤ val (tbS b p (cntF k : Nat)).1) && decide (val (tbS b p (cntF k : Nat)).1 ≤ n)) := by
        unfold lenF
        rw [if_neg]
        rintro (rfl | rfl | rfl) <;> exact absurd hc (by decide)
      rw [hl] at h ⊢
      have ho := tbS_ok b p (cntF k) h0
      generalize val (tbS b p (cntF k : Nat)).1 = x at *
      by_cases hx : 1 ≤ x ∧ x ≤ n
      · have hbool : (decide (1 ≤ x) && decide (x ≤ n)) = true := by simpa using hx
        rw [if_pos hbool, if_neg (by omega)]
        exact ⟨x, p + (cntF k + 1) / 2, rfl, rfl, by omega, by omega, rfl⟩
      · rw [if_neg (by simpa using hx)] at h
        exact absurd h (by decide)
    · simp only [if_neg h0] at h
      exact absurd h h0
  · simp only [if_neg hc] at h ⊢
    exact ⟨n, p, rfl, rfl, by omega, hp, rfl⟩
set_option maxRecDepth 100000 in
theorem tcF_bad (k n : Nat) (b : List UInt8) (p : Nat) (h : (tcF k n b p).2.2 ≠ 0) : readH k n b p = ([], 0, (tcF k n b p).2.2) := by
  unfold tcF at h ⊢
  unfold readH
  by_cases hc : 0 < cntF k
  · simp only [if_pos hc] at h ⊢
    by_cases h0 : (tbS b p (cntF k : Nat)).2.2 = 0
    · simp only [if_pos h0] at h ⊢
      have hl : lenF k n (val (tbS b p (cntF k : Nat)).1) = (decide (1 ≤ val (tbS b p (cntF k : Nat)).1) && decide (val (tbS b p (cntF k : Nat)).1 ≤ n)) := by
        unfold lenF
        rw [if_neg]
        rintro (rfl | rfl | rfl) <;> exact absurd hc (by decide)
      rw [hl] at h ⊢
      generalize val (tbS b p (cntF k : Nat)).1 = x at *
      by_cases hx : 1 ≤ x ∧ x ≤ n
      · rw [if_pos (by simpa using hx)] at h
        exact absurd rfl h
      · rw [if_pos (by omega), if_neg (by simpa using hx)]
    · simp only [if_neg h0]
  · simp only [if_neg hc] at h
    exact absurd rfl h

set_option maxRecDepth 100000 in
set_option maxHeartbeats 4000000 in
theorem fRead_any (no : Int) (A : Option Addr) (b : List UInt8) (c : Nat) (at_ : Int) (W : World) (hl : b.length ≤ 60000) (hc : b.length ≤ c) (hcm : c ≤ 9223372036854775807) (hr : Rd W W.heap.size A b) (hT : Tb W) :
    Calls Tryd.prog 88 #[.int .i64 no, .slice A b.length c, .int .i64 at_] W fun e W' => Ans3 W' e (readF no b at_).1 (readF no b at_).1.length (readF no b at_).2.1 (readF no b at_).2.2 ∧ Below W.heap.size W W' := by
  have CO := Lib.hid (fOf_any no W hT)
  by_cases hk : fk no = 0
  · rw [read_none no b at_ hk]
    have e0 : decide (fk no ≠ 0) = false := decide_eq_false (by omega)
    rw [e0] at CO
    clear e0 hk hr hT
    generalize fk no = k at *
    generalize fl no = n at *
    generalize b.length = M at *
    go_enter Tryd.func88, Tryd.ntmps88
    go_wp2_with fail
    refine CO.out.mono ?_
    rintro e w1 ⟨rfl, hb⟩
    have HB := Lib.hid (hb.alloc hb.size (.cells #[.int .i64 (k : Int), .int .i64 (n : Int)] 95))
    clear hb CO
    go_wp2
    go_ret3
    exact ⟨Ans3.none, HB.out⟩
  have e0 : decide (fk no ≠ 0) = true := decide_eq_true hk
  rw [e0] at CO
  by_cases ha : at_ < 0 ∨ (b.length : Int) < at_
  · have HE : readF no b at_ = ([], 0, 1) := by unfold readF; rw [if_neg hk, if_pos ha]
    rw [HE]
    clear hk hr hT HE e0
    generalize fk no = k at *
    generalize fl no = n at *
    generalize b.length = M at *
    by_cases h1 : at_ < 0
    · go_enter Tryd.func88, Tryd.ntmps88
      go_wp2_with fail
      refine CO.out.mono ?_
      rintro e w1 ⟨rfl, hb⟩
      have HB := Lib.hid (hb.alloc hb.size (.cells #[.int .i64 (k : Int), .int .i64 (n : Int)] 95))
      clear hb CO
      go_wp2
      go_ret3
      exact ⟨Ans3.none, HB.out⟩
    · have h2 : (M : Int) < at_ := by omega
      clear ha
      go_enter Tryd.func88, Tryd.ntmps88
      go_wp2_with fail
      refine CO.out.mono ?_
      rintro e w1 ⟨rfl, hb⟩
      have HB := Lib.hid (hb.alloc hb.size (.cells #[.int .i64 (k : Int), .int .i64 (n : Int)] 95))
      clear hb CO
      go_wp2
      go_ret3
      exact ⟨Ans3.none, HB.out⟩
  obtain ⟨p, rfl⟩ := Int.eq_ofNat_of_zero_le (show 0 ≤ at_ by omega)
  have hp : p ≤ b.length := by omega
  have d1 : ¬ (p : Int) < 0 := by omega
  have d2 : ¬ (b.length : Int) < (p : Int) := by omega
  have HR : readF no b (p : Int) = readH (fk no) (fl no) b p := by unfold readF; rw [if_neg hk, if_neg ha]; rfl
  rw [HR]
  have CS := Lib.hid (fun w => shapeOf_any (fk no) (form_1 hk).1 (form_1 hk).2 w)
  have CC := Lib.hid (fun g w (h : Below W.heap.size W w) => takeCount5_any (fk no) (fl no) g A b c p (form_1 hk).1 (form_1 hk).2 w (by omega) hc ((hr.below h (Nat.le_refl _)).more h.size))
  have bd := (form_le no).2
  clear HR ha e0
  obtain ⟨V, hVx⟩ : ∃ V : World, V = V := ⟨W, rfl⟩
  clear hVx V
  by_cases hE : (tcF (fk no) (fl no) b p).2.2 = 0
  · obtain ⟨m, q, hm, hq, hm9, hqb, hRB⟩ := tcF_ok (fk no) (fl no) b p bd hp hE
    rw [hRB, readB_code (fk no) (fl no) b q m hm9 hqb]
    have CI := Lib.hid (fun g w (h : Below W.heap.size W w) => takeItself5_any (fk no) g A b c q m w hqb hm9 (by omega) hc hcm ((hr.below h (Nat.le_refl _)).more h.size))
    have hul : (tiF (fk no) b q m).1.length ≤ 3000 := by
      unfold tiF
      split
      · by_cases h0 : (tbS b q m).2.2 = 0
        · have := (tbS_ok b q m h0).2.2.1; omega
        · have he : (tbS b q m).1 = [] := by
            revert h0
            unfold tbS
            split
            · intro; rfl
            · split
              · intro; rfl
              · split
                · intro h; exact absurd rfl h
                · intro; rfl
          rw [he]; simp
      · split
        · simp
        · simp; omega
    have CF := Lib.hid (fun (A' : Option Addr) c' w (h : Rd w w.heap.size A' (tiF (fk no) b q m).1) => fits5_any (fk no) (fl no) A' (tiF (fk no) b q m).1 c' (form_1 hk).1 (form_1 hk).2 w (by omega) h)
    rw [hE, hm, hq] at CC
    clear hE hm hq hm9 hqb hRB hul hk hp hT hr
    unfold shV mayV at CS CC CI
    generalize fitF (fk no) (fl no) (tiF (fk no) b q m).1 = T at *
    generalize (tiF (fk no) b q m).1 = U at *
    generalize (tiF (fk no) b q m).2.1 = I at *
    generalize (tiF (fk no) b q m).2.2 = E at *
    generalize decide (fk no ≤ 2) = P at *
    generalize loF (fk no) = lo at *
    generalize hiF (fk no) = hi at *
    generalize cntF (fk no) = L at *
    generalize fk no = k at *
    generalize fl no = n at *
    generalize b.length = M at *
    obtain ⟨N, hN⟩ : ∃ N, N = U.length := ⟨_, rfl⟩
    have HN := Lib.hid hN
    rw [← hN] at CI CF
    clear hN
    by_cases he : E = 0
    · subst he
      rw [if_pos rfl]
      go_enter Tryd.func88, Tryd.ntmps88
      go_wp2_with fail
      refine CO.out.mono ?_
      rintro e w1 ⟨rfl, hb⟩
      have hb2 := hb.alloc hb.size (.cells #[.int .i64 (k : Int), .int .i64 (n : Int)] 95)
      have HF := Lib.hid (heap_alloc_new w1 (.cells #[.int .i64 (k : Int), .int .i64 (n : Int)] 95))
      obtain ⟨V1, hV1⟩ : ∃ V, V = w1.alloc (.cells #[.int .i64 (k : Int), .int .i64 (n : Int)] 95) := ⟨_, rfl⟩
      rw [← hV1] at hb2 HF
      have HB1 := Lib.hid hb2
      have HV1 := Lib.hid hV1
      obtain ⟨f0, f1⟩ := cells2 HF.out
      rw [hV1] at f0 f1
      clear hb CO hb2 hV1
      go_wp2_with fail
      rw [← HV1.out]
      refine (CS.out V1).mono ?_
      rintro e w3 ⟨⟨g, rfl, -⟩, hb⟩
      have hb3 := bel5 HB1.out hb HB1.out.size
      have hf3 := old5 HF.out hb (Nat.le_refl _)
      obtain ⟨V, hV, hbV, hS⟩ := box_shape w3 L P (.func (.func 108) #[] #[.pointer (some ⟨g, 0, none⟩), .pointer (some ⟨g + 1, 0, none⟩)])
      have HF4 := Lib.hid (old5 hf3 hbV (Nat.le_refl _))
      have HBV := Lib.hid (bel5 hb3 hbV hb3.size)
      have HS := Lib.hid hS
      have HV := Lib.hid hV
      clear f0 f1 hb hb3 hbV hS hV hf3 HB1 HF HV1 CS
      obtain ⟨f0, f1⟩ := cells2 HF4.out
      obtain ⟨x0, x1, x2⟩ := cellsS HS.out
      go_wp2_with (with_reducible refine at_list5 ?_; first | (refine storeS _ (.tmp 11) (.tmp 32) w3.heap.size (.int .i64 (L : Int)) (.bool P) (.func (.func 108) #[] #[.pointer (some ⟨g, 0, none⟩), .pointer (some ⟨g + 1, 0, none⟩)]) #[.int .i64 0, .bool false, .nilFunc] (by exact heap_alloc_new w3 _) rfl (by simp [Value.oneCell']) rfl rfl rfl rfl ?_; rw [foldS, ← HV.out]) | (refine loadS V (.tmp 11) w3.heap.size _ _ _ HS.out rfl rfl rfl ?_))
      refine (CC.out g V HBV.out).mono ?_
      rintro e w4 ⟨rfl, hb⟩
      have HB4 := Lib.hid (bel5 HBV.out hb HBV.out.size)
      have HF5 := Lib.hid (old5 HF4.out hb (Nat.le_refl _))
      have HS5 := Lib.hid (old5 HS.out hb (Nat.le_refl _))
      clear f0 f1 x0 x1 x2 hb HBV HF4 HS HV CC
      obtain ⟨x0, x1, x2⟩ := cellsS HS5.out
      obtain ⟨s, hs⟩ : ∃ s, s = w3.heap.size := ⟨_, rfl⟩
      rw [← hs] at HS5 x0 x1 x2 ⊢
      clear hs
      go_wp2_with (with_reducible refine at_list5 ?_; refine loadS w4 (.tmp 11) s _ _ _ HS5.out rfl rfl rfl ?_)
      refine (CI.out g w4 HB4.out).mono ?_
      rintro e w5 ⟨⟨A1, c1, rfl, h1, h2, h3⟩, hb⟩
      have HB5 := Lib.hid (bel5 HB4.out hb HB4.out.size)
      have HF6 := Lib.hid (old5 HF5.out hb (Nat.le_refl _))
      have R5 := Lib.hid h3
      clear hb HB4 HF5 HS5 CI h3 x0 x1 x2
      obtain ⟨f0, f1⟩ := cells2 HF6.out
      go_wp2_with fail
      refine (CF.out A1 c1 w5 R5.out).mono ?_
      rintro e w6 ⟨rfl, hb⟩
      have HB6 := Lib.hid (bel5 HB5.out hb HB5.out.size)
      have R6 := Lib.hid ((R5.out.below hb (Nat.le_refl _)).more hb.size)
      clear hb HB5 R5 CF f0 f1
      cases T with
      | false =>
        go_wp2
        go_ret3
        exact ⟨Ans3.none, HB6.out⟩
      | true =>
        go_wp2
        go_ret3
        exact ⟨⟨A1, c1, by rw [HN.out]; rfl, by show U.length ≤ c1; rw [← HN.out]; exact h1, h2, R6.out⟩, HB6.out⟩
    · rw [if_neg he]
      clear CF
      go_enter Tryd.func88, Tryd.ntmps88
      go_wp2_with fail
      refine CO.out.mono ?_
      rintro e w1 ⟨rfl, hb⟩
      have hb2 := hb.alloc hb.size (.cells #[.int .i64 (k : Int), .int .i64 (n : Int)] 95)
      have HF := Lib.hid (heap_alloc_new w1 (.cells #[.int .i64 (k : Int), .int .i64 (n : Int)] 95))
      obtain ⟨V1, hV1⟩ : ∃ V, V = w1.alloc (.cells #[.int .i64 (k : Int), .int .i64 (n : Int)] 95) := ⟨_, rfl⟩
      rw [← hV1] at hb2 HF
      have HB1 := Lib.hid hb2
      have HV1 := Lib.hid hV1
      obtain ⟨f0, f1⟩ := cells2 HF.out
      rw [hV1] at f0 f1
      clear hb CO hb2 hV1
      go_wp2_with fail
      rw [← HV1.out]
      refine (CS.out V1).mono ?_
      rintro e w3 ⟨⟨g, rfl, -⟩, hb⟩
      have hb3 := bel5 HB1.out hb HB1.out.size
      have hf3 := old5 HF.out hb (Nat.le_refl _)
      obtain ⟨V, hV, hbV, hS⟩ := box_shape w3 L P (.func (.func 108) #[] #[.pointer (some ⟨g, 0, none⟩), .pointer (some ⟨g + 1, 0, none⟩)])
      have HF4 := Lib.hid (old5 hf3 hbV (Nat.le_refl _))
      have HBV := Lib.hid (bel5 hb3 hbV hb3.size)
      have HS := Lib.hid hS
      have HV := Lib.hid hV
      clear f0 f1 hb hb3 hbV hS hV hf3 HB1 HF HV1 CS
      obtain ⟨f0, f1⟩ := cells2 HF4.out
      obtain ⟨x0, x1, x2⟩ := cellsS HS.out
      go_wp2_with (with_reducible refine at_list5 ?_; first | (refine storeS _ (.tmp 11) (.tmp 32) w3.heap.size (.int .i64 (L : Int)) (.bool P) (.func (.func 108) #[] #[.pointer (some ⟨g, 0, none⟩), .pointer (some ⟨g + 1, 0, none⟩)]) #[.int .i64 0, .bool false, .nilFunc] (by exact heap_alloc_new w3 _) rfl (by simp [Value.oneCell']) rfl rfl rfl rfl ?_; rw [foldS, ← HV.out]) | (refine loadS V (.tmp 11) w3.heap.size _ _ _ HS.out rfl rfl rfl ?_))
      refine (CC.out g V HBV.out).mono ?_
      rintro e w4 ⟨rfl, hb⟩
      have HB4 := Lib.hid (bel5 HBV.out hb HBV.out.size)
      have HF5 := Lib.hid (old5 HF4.out hb (Nat.le_refl _))
      have HS5 := Lib.hid (old5 HS.out hb (Nat.le_refl _))
      clear f0 f1 x0 x1 x2 hb HBV HF4 HS HV CC
      obtain ⟨x0, x1, x2⟩ := cellsS HS5.out
      obtain ⟨s, hs⟩ : ∃ s, s = w3.heap.size := ⟨_, rfl⟩
      rw [← hs] at HS5 x0 x1 x2 ⊢
      clear hs
      go_wp2_with (with_reducible refine at_list5 ?_; refine loadS w4 (.tmp 11) s _ _ _ HS5.out rfl rfl rfl ?_)
      refine (CI.out g w4 HB4.out).mono ?_
      rintro e w5 ⟨⟨A1, c1, rfl, h1, h2, h3⟩, hb⟩
      have HB5 := Lib.hid (bel5 HB4.out hb HB4.out.size)
      have HF6 := Lib.hid (old5 HF5.out hb (Nat.le_refl _))
      have R5 := Lib.hid h3
      clear hb HB4 HF5 HS5 CI h3 x0 x1 x2
      go_wp2
      go_ret3
      exact ⟨Ans3.none, HB5.out⟩
  · rw [tcF_bad (fk no) (fl no) b p hE]
    unfold shV mayV at CS CC
    generalize (tcF (fk no) (fl no) b p).2.2 = E at *
    generalize (tcF (fk no) (fl no) b p).2.1 = I at *
    generalize (tcF (fk no) (fl no) b p).1 = X at *
    clear hk hp hT hr
    generalize decide (fk no ≤ 2) = P at *
    generalize loF (fk no) = lo at *
    generalize hiF (fk no) = hi at *
    generalize cntF (fk no) = L at *
    generalize fk no = k at *
    generalize fl no = n at *
    generalize b.length = M at *
    go_enter Tryd.func88, Tryd.ntmps88
    go_wp2_with fail
    refine CO.out.mono ?_
    rintro e w1 ⟨rfl, hb⟩
    have hb2 := hb.alloc hb.size (.cells #[.int .i64 (k : Int), .int .i64 (n : Int)] 95)
    have HF := Lib.hid (heap_alloc_new w1 (.cells #[.int .i64 (k : Int), .int .i64 (n : Int)] 95))
    obtain ⟨V1, hV1⟩ : ∃ V, V = w1.alloc (.cells #[.int .i64 (k : Int), .int .i64 (n : Int)] 95) := ⟨_, rfl⟩
    rw [← hV1] at hb2 HF
    have HB1 := Lib.hid hb2
    have HV1 := Lib.hid hV1
    obtain ⟨f0, f1⟩ := cells2 HF.out
    rw [hV1] at f0 f1
    clear hb CO hb2 hV1
    go_wp2_with fail
    rw [← HV1.out]
    refine (CS.out V1).mono ?_
    rintro e w3 ⟨⟨g, rfl, -⟩, hb⟩
    have hb3 := bel5 HB1.out hb HB1.out.size
    have hf3 := old5 HF.out hb (Nat.le_refl _)
    obtain ⟨V, hV, hbV, hS⟩ := box_shape w3 L P (.func (.func 108) #[] #[.pointer (some ⟨g, 0, none⟩), .pointer (some ⟨g + 1, 0, none⟩)])
    have HF4 := Lib.hid (old5 hf3 hbV (Nat.le_refl _))
    have HBV := Lib.hid (bel5 hb3 hbV hb3.size)
    have HS := Lib.hid hS
    have HV := Lib.hid hV
    clear f0 f1 hb hb3 hbV hS hV hf3 HB1 HF HV1 CS
    obtain ⟨f0, f1⟩ := cells2 HF4.out
    obtain ⟨x0, x1, x2⟩ := cellsS HS.out
    go_wp2_with (with_reducible refine at_list5 ?_; first | (refine storeS _ (.tmp 11) (.tmp 32) w3.heap.size (.int .i64 (L : Int)) (.bool P) (.func (.func 108) #[] #[.pointer (some ⟨g, 0, none⟩), .pointer (some ⟨g + 1, 0, none⟩)]) #[.int .i64 0, .bool false, .nilFunc] (by exact heap_alloc_new w3 _) rfl (by simp [Value.oneCell']) rfl rfl rfl rfl ?_; rw [foldS, ← HV.out]) | (refine loadS V (.tmp 11) w3.heap.size _ _ _ HS.out rfl rfl rfl ?_))
    refine (CC.out g V HBV.out).mono ?_
    rintro e w4 ⟨rfl, hb⟩
    have HB4 := Lib.hid (bel5 HBV.out hb HBV.out.size)
    have HF5 := Lib.hid (old5 HF4.out hb (Nat.le_refl _))
    have HS5 := Lib.hid (old5 HS.out hb (Nat.le_refl _))
    clear f0 f1 x0 x1 x2 hb HBV HF4 HS HV CC
    go_wp2
    go_ret3
    exact ⟨Ans3.none, HB4.out⟩
end Go.Proofs.YtpfjecjfooefoaaDoor
/- Package bitmap: Right, Place, is, set, size, take: what each call answers. -/

namespace Go.Proofs.YtpfjecjfooefoaaDoor
open Go.RowKit

set_option maxRecDepth 100000 in
theorem RightP.i64 {l : List Int} (h : RightP l) : I64s l := fun z hz => by have := h.mem hz; omega

set_option maxRecDepth 100000 in
set_option maxHeartbeats 1000000 in
theorem bRight_any (A : Option Addr) (l : List Int) (c : Nat) (W : World) (hl : l.length ≤ 1000) (_ : I64s l) (hr : RdI W W.heap.size A l) :
    Calls Tryd.prog 70 #[.slice A l.length c] W fun e W' => e = .returned (.bool (decide (RightP l))) ∧ Below W.heap.size W W' := by
  obtain ⟨R, hR⟩ : ∃ R, R = decide (RightP l) := ⟨_, rfl⟩
  rw [← hR]
  have HR := Lib.hid hR
  have RA := Lib.hid hr
  obtain ⟨n, hn⟩ : ∃ n, n = l.length := ⟨_, rfl⟩
  have HN := Lib.hid hn
  rw [← hn] at hl ⊢
  clear hR hr hn
  go_enter Tryd.func70, Tryd.ntmps70
  go_wp2
  go_loopw [3, 8] (fun p i wr => ∃ (k : Nat) (z : Int), k ≤ n ∧ p = .int .i64 z ∧ i = .int .i64 k ∧ Hid ((k = 0 ∧ z = 1) ∨ (0 < k ∧ ∀ h : k - 1 < l.length, z = l[k - 1])) ∧ Hid (∀ j (h : j < l.length), j < k → 2 ≤ l[j] ∧ l[j] ≤ 128 ∧ l[j] ≠ 65 ∧ (0 < j → l[j - 1] < l[j])) ∧ Below W.heap.size W wr) (fun _ i _ => n - (intOf i).toNat)
  case atStart => exact ⟨0, 1, Nat.zero_le _, rfl, rfl, Lib.hid (.inl ⟨rfl, rfl⟩), Lib.hid (fun j h hj => absurd hj (by omega)), Below.refl _ _⟩
  case round =>
    obtain ⟨k, z, hk, rfl, rfl, HZ, HT, hbel⟩ := hrel
    have HB := Lib.hid hbel
    clear hbel
    by_cases hlt : k < n
    · have hk1 : k < l.length := by rw [← HN.out]; exact hlt
      obtain ⟨b1, o1, rfl, hb1, hc1⟩ := RA.out (by omega)
      have k1 := (HB.out.cell (p := ⟨b1, o1 + k, none⟩) hb1).trans (hc1 k hk1)
      have HTN := Lib.hid (show (z < l[k] ∧ l[k] ≤ 128 ∧ l[k] ≠ 65) → ∀ j (h : j < l.length), j < k + 1 → 2 ≤ l[j] ∧ l[j] ≤ 128 ∧ l[j] ≠ 65 ∧ (0 < j → l[j - 1] < l[j]) from fun h j hj1 hj2 => by
        by_cases e : j = k
        · subst e
          refine ⟨?_, h.2.1, h.2.2, fun h0 => ?_⟩
          · rcases HZ.out with ⟨_, rfl⟩ | ⟨h0, hz⟩
            · omega
            · have := hz (by omega)
              have := (HT.out (j - 1) (by omega) (by omega)).1
              omega
          · rcases HZ.out with ⟨h9, _⟩ | ⟨_, hz⟩
            · omega
            · rw [← hz (by omega)]; exact h.1
        · exact HT.out j hj1 (by omega))
      have HNE := Lib.hid (show ¬ (z < l[k] ∧ l[k] ≤ 128 ∧ l[k] ≠ 65) → R = false from fun hne => by
        rw [HR.out]
        refine decide_eq_false (fun h => hne ⟨?_, (h k hk1).2.1, (h k hk1).2.2.1⟩)
        rcases HZ.out with ⟨_, rfl⟩ | ⟨h0, hz⟩
        · have := (h k hk1).1; omega
        · rw [hz (by omega)]; exact (h k hk1).2.2.2 h0)
      have HZN := Lib.hid (show ∀ y, y = l[k] → (k + 1 = 0 ∧ y = 1) ∨ (0 < k + 1 ∧ ∀ h : k + 1 - 1 < l.length, y = l[k + 1 - 1]) from fun y hy => .inr ⟨by omega, fun _ => hy⟩)
      have hki : (k : Int) < (n : Int) := by omega
      have hk0 : (0 : Int) ≤ (k : Int) := Int.natCast_nonneg _
      obtain ⟨x, hx⟩ : ∃ x, x = l[k] := ⟨_, rfl⟩
      have HZQ := Lib.hid (HZN.out x hx)
      rw [← hx] at k1 HTN HNE
      clear hc1 HT HZN hx HZ
      by_cases h1 : x ≤ z
      · have HRF := Lib.hid (HNE.out (fun h => by omega))
        clear HNE HTN hk1 HZQ
        go_wp2
        go_ret
        exact ⟨by rw [HRF.out]; rfl, HB.out⟩
      by_cases h2 : 128 < x
      · have HRF := Lib.hid (HNE.out (fun h => by omega))
        clear HNE HTN hk1 HZQ
        go_wp2
        go_ret
        exact ⟨by rw [HRF.out]; rfl, HB.out⟩
      by_cases h3 : x = 65
      · have HRF := Lib.hid (HNE.out (fun h => by omega))
        have d3 : (x == 65) = true := beq_iff_eq.2 h3
        clear HNE HTN h3 hk1 HZQ
        go_wp2
        go_ret
        exact ⟨by rw [HRF.out]; rfl, HB.out⟩
      have d3 : (x == 65) = false := beq_eq_false_iff_ne.2 h3
      have HTQ := Lib.hid (HTN.out ⟨by omega, by omega, h3⟩)
      clear HNE HTN h3 hk1
      go_wp2
      go_roundw
      case rel => exact ⟨k + 1, x, by omega, rfl, by go_num, HZQ, HTQ, HB.out⟩
      case measure => simp [intOf]; omega
    · have HRT := Lib.hid (show R = true by
        rw [HR.out]
        exact decide_eq_true (fun j hj => HT.out j hj (by have := HN.out; omega)))
      have hki : ¬ (k : Int) < (n : Int) := by omega
      clear HT
      go_wp2
      go_ret
      exact ⟨by rw [HRT.out]; rfl, HB.out⟩

set_option maxRecDepth 100000 in
theorem pow8 (r : Nat) (h : r < 8) : 128 / 2 ^ r = 2 ^ (7 - r) := by
  match r, h with
  | 0, _ => rfl
  | 1, _ => rfl
  | 2, _ => rfl
  | 3, _ => rfl
  | 4, _ => rfl
  | 5, _ => rfl
  | 6, _ => rfl
  | 7, _ => rfl
  | k + 8, h => omega
set_option maxRecDepth 100000 in
theorem pow8i (r : Nat) (h : r < 8) : (128 : Int) / 2 ^ r = ((2 ^ (7 - r) : Nat) : Int) := by
  rw [← pow8 r h]
  simp

set_option maxRecDepth 100000 in
set_option maxHeartbeats 1000000 in
theorem bPlace_is (n : Int) (hn : -9223372036854775808 ≤ n ∧ n ≤ 9223372036854775807) (W : World) :
    Calls Tryd.prog 98 #[.int .i64 n] W fun e W' => e = .returned (.tuple #[.int .i64 (plI n), .int .u8 (plB n : Nat)]) ∧ ∃ k, W' = W.drewN k := by
  unfold plI plB
  by_cases h1 : n < 1
  · rw [if_neg (by omega), if_neg (by omega)]
    go_enter Tryd.func98, Tryd.ntmps98
    go_wp2
    go_ret2
    exact ⟨rfl, 0, rfl⟩
  by_cases h2 : 128 < n
  · rw [if_neg (by omega), if_neg (by omega)]
    go_enter Tryd.func98, Tryd.ntmps98
    go_wp2
    go_ret2
    exact ⟨rfl, 0, rfl⟩
  rw [if_pos (by omega), if_pos (by omega)]
  have HP := Lib.hid (pow8i ((n - 1) % 8).toNat (by omega))
  go_enter Tryd.func98, Tryd.ntmps98
  go_wp2
  go_quiet (fail)
  go_wp2
  go_ret2
  refine ⟨?_, _, rfl⟩
  rw [← HP.out]
  rfl
set_option maxRecDepth 100000 in
theorem bPlace_any (n : Int) (hn : -9223372036854775808 ≤ n ∧ n ≤ 9223372036854775807) (W : World) :
    Calls Tryd.prog 98 #[.int .i64 n] W fun e W' => e = .returned (.tuple #[.int .i64 (plI n), .int .u8 (plB n : Nat)]) ∧ Below W.heap.size W W' := by
  refine (bPlace_is n hn W).mono ?_
  rintro e w' ⟨rfl, k, rfl⟩
  exact ⟨rfl, below_drewN (Below.refl _ _) k⟩

set_option maxRecDepth 100000 in
theorem bIs_any (A : Option Addr) (b : List UInt8) (c n : Nat) (W : World) (h1 : 1 ≤ n) (h2 : n ≤ 128) (hb : (n - 1) / 8 < b.length) (_hl : b.length ≤ 100000) (hr : Rd W W.heap.size A b) :
    Calls Tryd.prog 109 #[.slice A b.length c, .int .i64 (n : Int)] W fun e W' => e = .returned (.bool (hasF b n)) ∧ ∃ k, W' = W.drewN k := by
  have CP := Lib.hid (fun w => bPlace_is (n : Int) (by omega) w)
  rw [(plI_nat n h1 h2).1, (plI_nat n h1 h2).2] at CP
  obtain ⟨ab, ao, rfl, hab, hcell⟩ := hr.at_ hb
  obtain ⟨X, hX, hB, hX2⟩ := and_bit b[(n - 1) / 8].toNat (7 - (n - 1) % 8) b[(n - 1) / 8].toNat_lt (by omega)
  have hH : hasF b n = ((X : Int) != 0) := by
    rw [hB]
    unfold hasF
    rw [List.getD_eq_getElem?_getD, List.getElem?_eq_getElem hb, Option.getD_some]
  rw [hH]
  obtain ⟨p, hp⟩ : ∃ p : Nat, p = 2 ^ (7 - (n - 1) % 8) := ⟨_, rfl⟩
  rw [← hp] at CP hX
  obtain ⟨j, hj⟩ : ∃ j, j = (n - 1) / 8 := ⟨_, rfl⟩
  generalize b[(n - 1) / 8].toNat = x at *
  rw [← hj] at CP hcell hb
  generalize b.length = m at *
  have hji : (j : Int) < (m : Int) := by omega
  have hcw : ∀ k, (W.drewN k).cell? ⟨ab, ao + j, none⟩ = some (.int .u8 (x : Int)) := fun k => hcell
  clear hB hH hp hj hcell
  go_enter Tryd.func109, Tryd.ntmps109
  go_wp2_with fail
  refine (CP.out _).mono ?_
  rintro e w1 ⟨rfl, k, rfl⟩
  have hck := hcw k
  clear CP hcw
  go_wp2
  go_ret
  exact ⟨rfl, _, rfl⟩

/-- the bits, one more of them 1 -/
def orF (f : Nat → Value) (x y : Nat) (q : Nat) : Value := if q = (x - 1) / 8 then .int .u8 ((y ||| 2 ^ (7 - (x - 1) % 8) : Nat) : Int) else f q
set_option maxRecDepth 100000 in
set_option maxHeartbeats 1000000 in
theorem bSet_any (g N cap : Nat) (f : Nat → Value) (x y : Nat) (W : World) (h1 : 1 ≤ x) (h2 : x ≤ 128) (_hN : N ≤ 1000) (hj : (x - 1) / 8 < N) (hrow : W.rowIs g 5 N f) (hf : f ((x - 1) / 8) = .int .u8 (y : Int)) (hy : y < 256) :
    Calls Tryd.prog 72 #[.slice (some ⟨g, 0, none⟩) N cap, .int .i64 (x : Int)] W fun e W' => e = .returned (.tuple #[]) ∧ W'.rowIs g 5 N (orF f x y) ∧ Below g W W' := by
  have CP := Lib.hid (fun w => bPlace_is (x : Int) (by omega) w)
  rw [(plI_nat x h1 h2).1, (plI_nat x h1 h2).2] at CP
  have hp8 : 2 ^ (7 - (x - 1) % 8) < 256 := by
    have := Nat.pow_le_pow_right (show 1 ≤ 2 by decide) (show 7 - (x - 1) % 8 ≤ 7 by omega)
    have e : 2 ^ 7 = 128 := rfl
    omega
  have HOR := Lib.hid (show orF f x y = fun q => if q = (x - 1) / 8 then .int .u8 ((y ||| 2 ^ (7 - (x - 1) % 8) : Nat) : Int) else f q from rfl)
  generalize orF f x y = G at *
  obtain ⟨j, hj'⟩ : ∃ j, j = (x - 1) / 8 := ⟨_, rfl⟩
  obtain ⟨p, hp⟩ : ∃ p : Nat, p = 2 ^ (7 - (x - 1) % 8) := ⟨_, rfl⟩
  rw [← hj'] at CP HOR hj hf
  rw [← hp] at CP HOR hp8
  have hor := u8_or_nat y p hy hp8
  have hji : (j : Int) < (N : Int) := by omega
  have HROW := Lib.hid hrow
  have hcw : ∀ k, (W.drewN k).cell? ⟨g, j, none⟩ = some (.int .u8 (y : Int)) := fun k => by rw [← hf]; exact hrow.cell hj
  have hfw : ∀ k, (W.drewN k).frozen? ⟨g, j, none⟩ = false := fun k => hrow.frozen j
  clear hj' hp hf hrow
  go_enter Tryd.func72, Tryd.ntmps72
  go_wp2_with fail
  refine (CP.out _).mono ?_
  rintro e w1 ⟨rfl, k, rfl⟩
  have hck := hcw k
  have hfk := hfw k
  clear CP hcw hfw
  go_wp2
  go_end0
  refine ⟨rfl, ?_, ?_⟩
  · rw [HOR.out]
    refine (World.rowIs.set (w := W.drewN k) HROW.out j _).congr (fun q _ => ?_)
    by_cases e : q = j
    · simp only [if_pos e]
    · simp only [if_neg e]
  · exact (below_drewN (Below.refl g W) k).setCell (Nat.le_refl _) _

set_option maxRecDepth 100000 in
theorem bSize_any (A : Option Addr) (l : List Int) (c : Nat) (W : World) (hl : l.length ≤ 1000) (hr : RdI W W.heap.size A l) :
    Calls Tryd.prog 71 #[.slice A l.length c] W fun e W' => e = .returned (.int .i64 (sizeB (l.getLast?.any fun x => decide (64 < x)) : Nat)) ∧ W' = W := by
  rcases List.eq_nil_or_concat l with rfl | ⟨l0, z, rfl⟩
  · go_enter Tryd.func71, Tryd.ntmps71
    go_wp2
    go_ret
    exact ⟨rfl, rfl⟩
  · rw [List.concat_eq_append] at *
    have hlast : (l0 ++ [z]).getLast?.any (fun x => decide (64 < x)) = decide (64 < z) := by simp
    rw [hlast]
    obtain ⟨b, o, rfl, hb, hc⟩ := hr.at_ (k := l0.length) (by simp)
    have hz : (l0 ++ [z])[l0.length]'(by simp) = z := by simp
    rw [hz] at hc
    rw [List.length_append] at hl ⊢
    simp only [List.length_cons, List.length_nil] at hl ⊢
    clear hr hz hlast
    generalize l0.length = m at *
    have e1 : (((m + 1 : Nat) : Int)) - 1 = (m : Int) := by omega
    have e2 : (0 : Int) < ((m + 1 : Nat) : Int) := by omega
    have e3 : (m : Int) < ((m + 1 : Nat) : Int) := by omega
    obtain ⟨M, hM⟩ : ∃ M, M = m + 1 := ⟨_, rfl⟩
    rw [← hM] at e1 e2 e3 ⊢
    by_cases h64 : 64 < z
    · rw [decide_eq_true h64]
      clear hM
      go_enter Tryd.func71, Tryd.ntmps71
      go_wp2
      go_ret
      exact ⟨rfl, rfl⟩
    · rw [decide_eq_false h64]
      clear hM
      go_enter Tryd.func71, Tryd.ntmps71
      go_wp2
      go_ret
      exact ⟨rfl, rfl⟩
/-- the rows that bytes begin with -/
def takeF (b : List UInt8) : Nat := if b.length < 8 then 0 else if b.length < sizeB (hasF b 1) then 0 else sizeB (hasF b 1)
def takeV (A : Option Addr) (b : List UInt8) (c : Nat) : Value := if takeF b = 0 then .tuple #[.slice none 0 0, .int .i64 3] else .tuple #[.slice A (takeF b) c, .int .i64 0]
set_option maxRecDepth 100000 in
theorem takeV_0 {A : Option Addr} {b : List UInt8} {c : Nat} (h : takeF b = 0) : takeV A b c = .tuple #[.slice none 0 0, .int .i64 3] := by unfold takeV; rw [if_pos h]
set_option maxRecDepth 100000 in
theorem takeV_n {A : Option Addr} {b : List UInt8} {c n : Nat} (h : takeF b = n) (h0 : n ≠ 0) : takeV A b c = .tuple #[.slice A n c, .int .i64 0] := by unfold takeV; rw [if_neg (by omega), h]
set_option maxRecDepth 100000 in
theorem bTake_any (A : Option Addr) (b : List UInt8) (c : Nat) (W : World) (hc : b.length ≤ c) (hcm : c ≤ 9223372036854775807) (hl : b.length ≤ 100000) (hr : Rd W W.heap.size A b) :
    Calls Tryd.prog 102 #[.slice A b.length c] W fun e W' => e = .returned (takeV A b c) ∧ ∃ k, W' = W.drewN k := by
  by_cases h8 : b.length < 8
  · have e0 : takeF b = 0 := by unfold takeF; rw [if_pos h8]
    rw [takeV_0 e0]
    have h8i : (b.length : Int) < 8 := by omega
    clear e0 hr hc
    generalize b.length = m at *
    go_enter Tryd.func102, Tryd.ntmps102
    go_wp2
    go_ret2
    exact ⟨rfl, 0, rfl⟩
  have CI := Lib.hid (show Calls Tryd.prog 109 #[.slice A b.length c, .int .i64 1] W fun e W' => e = .returned (.bool (hasF b 1)) ∧ ∃ k, W' = W.drewN k from bIs_any A b c 1 W (by omega) (by omega) (by omega) hl hr)
  obtain ⟨ab, ao, hA⟩ : ∃ ab ao, A = some ⟨ab, ao, none⟩ := by
    obtain ⟨ab, ao, hA, _, _⟩ := hr.at_ (k := 0) (by omega)
    exact ⟨ab, ao, hA⟩
  have h8i : ¬ (b.length : Int) < 8 := by omega
  have c8 : (8 : Int) ≤ (c : Int) := by omega
  have c8n : 8 ≤ c := by omega
  have hT : takeF b = if b.length < sizeB (hasF b 1) then 0 else sizeB (hasF b 1) := by unfold takeF; rw [if_neg h8]
  cases hw : hasF b 1 with
  | false =>
    have e0 : takeF b = 8 := by rw [hT, hw, if_neg (show ¬ b.length < sizeB false from by show ¬ b.length < 8; omega)]; rfl
    rw [takeV_n e0 (by decide)]
    rw [hw] at CI
    clear e0 hr hw hT hA
    generalize b.length = m at *
    go_enter Tryd.func102, Tryd.ntmps102
    go_wp2_with fail
    refine CI.out.mono ?_
    rintro e w1 ⟨rfl, k, rfl⟩
    clear CI
    go_wp2
    go_ret2
    exact ⟨rfl, _, rfl⟩
  | true =>
    rw [hw] at CI
    by_cases h16 : b.length < 16
    · have e0 : takeF b = 0 := by rw [hT, hw, if_pos (show b.length < sizeB true from h16)]
      rw [takeV_0 e0]
      have h16i : (b.length : Int) < 16 := by omega
      clear e0 hr hw hT hA
      generalize b.length = m at *
      go_enter Tryd.func102, Tryd.ntmps102
      go_wp2_with fail
      refine CI.out.mono ?_
      rintro e w1 ⟨rfl, k, rfl⟩
      clear CI
      go_wp2
      go_ret2
      exact ⟨rfl, _, rfl⟩
    · have e0 : takeF b = 16 := by rw [hT, hw, if_neg (show ¬ b.length < sizeB true from h16)]; rfl
      rw [takeV_n e0 (by decide)]
      have h16i : ¬ (b.length : Int) < 16 := by omega
      have c16 : (16 : Int) ≤ (c : Int) := by omega
      have c16n : 16 ≤ c := by omega
      clear e0 hr hw hT hA
      generalize b.length = m at *
      go_enter Tryd.func102, Tryd.ntmps102
      go_wp2_with fail
      refine CI.out.mono ?_
      rintro e w1 ⟨rfl, k, rfl⟩
      clear CI
      go_wp2
      go_ret2
      exact ⟨rfl, _, rfl⟩
end Go.Proofs.YtpfjecjfooefoaaDoor
