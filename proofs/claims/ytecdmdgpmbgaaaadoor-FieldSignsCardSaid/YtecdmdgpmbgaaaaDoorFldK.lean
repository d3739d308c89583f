
/- field.Read. -/
import Derived.Test.YtecdmdgpmbgaaaaDoorFldY
namespace Go.Proofs.YtecdmdgpmbgaaaaDoor
open Go.RowKit

theorem readB_code (k n : Nat) (b : List UInt8) (q m : Nat) (hm : m ≤ 999) (hq : q ≤ b.length) :
    readB k n b q m = if (tiF k b q m).2.2 = 0 then (if fitF k n (tiF k b q m).1 = true then ((tiF k b q m).1, (tiF k b q m).2.1, 0) else ([], 0, 2)) else ([], 0, (tiF k b q m).2.2) := by
  unfold readB tiF sizeF
  by_cases hk : k ≤ 2
  · simp only [if_pos hk]
    by_cases hs : b.length < q + (m + 1) / 2
    · rw [if_pos hs]
      have h3 := (tbS_err b q m hm hq).1 hs
      rw [h3, if_neg (by decide)]
    · rw [if_neg hs]
      by_cases h0 : (tbS b q m).2.2 = 0
      · rw [if_pos h0, if_pos h0, (tbS_ok b q m h0).2.1]
      · rw [if_neg h0, if_neg h0]
        have h2 : (tbS b q m).2.2 = 2 := by
          revert h0
          unfold tbS
          simp only [Int.toNat_natCast]
          rw [if_neg (by omega), if_neg hs]
          split
          · intro h; exact absurd rfl h
          · intro; rfl
        rw [h2]
  · simp only [if_neg hk]
    by_cases hs : b.length < q + m
    · rw [if_pos hs, if_pos hs]
      rfl
    · rw [if_neg hs, if_neg hs]
      rfl
theorem tcF_ok (k n : Nat) (b : List UInt8) (p : Nat) (hn : n ≤ 400) (hp : p ≤ b.length) (h : (tcF k n b p).2.2 = 0) :
    ∃ m q : Nat, (tcF k n b p).1 = (m : Int) ∧ (tcF k n b p).2.1 = (q : Int) ∧ m ≤ 999 ∧ q ≤ b.length ∧ readH k n b p = readB k n b q m := by
  unfold tcF at h ⊢
  unfold readH
  by_cases hc : 0 < cntF k
  · rw [if_pos hc] at h
    simp only [if_pos hc] at h ⊢
    by_cases h0 : (tbS b p (cntF k : Nat)).2.2 = 0
    · simp only [if_pos h0] at h ⊢
      have hl : lenF k n (val (tbS b p (cntF k : Nat)).1) = (decide (1 ≤ val (tbS b p (cntF k : Nat)).1) && decide (val (tbS b p (cntF k : Nat)).1 ≤ n)) := by
        unfold lenF
        rw [if_neg]
        rintro (rfl | rfl | rfl) <;> exact absurd hc (by decide)
      rw [hl] at h ⊢
      have ho := tbS_ok b p (cntF k) h0
      generalize val (tbS b p (cntF k : Nat)).1 = x at *
      by_cases hx : 1 ≤ x ∧ x ≤ n
      · have hbool : (decide (1 ≤ x) && decide (x ≤ n)) = true := by simpa using hx
        rw [if_pos hbool, if_neg (by omega)]
        exact ⟨x, p + (cntF k + 1) / 2, rfl, rfl, by omega, by omega, rfl⟩
      · rw [if_neg (by simpa using hx)] at h
        exact absurd h (by decide)
    · simp only [if_neg h0] at h
      exact absurd h h0
  · simp only [if_neg hc] at h ⊢
    exact ⟨n, p, rfl, rfl, by omega, hp, rfl⟩
theorem tcF_bad (k n : Nat) (b : List UInt8) (p : Nat) (h : (tcF k n b p).2.2 ≠ 0) : readH k n b p = ([], 0, (tcF k n b p).2.2) := by
  unfold tcF at h ⊢
  unfold readH
  by_cases hc : 0 < cntF k
  · simp only [if_pos hc] at h ⊢
    by_cases h0 : (tbS b p (cntF k : Nat)).2.2 = 0
    · simp only [if_pos h0] at h ⊢
      have hl : lenF k n (val (tbS b p (cntF k : Nat)).1) = (decide (1 ≤ val (tbS b p (cntF k : Nat)).1) && decide (val (tbS b p (cntF k : Nat)).1 ≤ n)) := by
        unfold lenF
        rw [if_neg]
        rintro (rfl | rfl | rfl) <;> exact absurd hc (by decide)
      rw [hl] at h ⊢
      generalize val (tbS b p (cntF k : Nat)).1 = x at *
      by_cases hx : 1 ≤ x ∧ x ≤ n
      · rw [if_pos (by simpa using hx)] at h
        exact absurd rfl h
      · rw [if_pos (by omega), if_neg (by simpa using hx)]
    · simp only [if_neg h0]
  · simp only [if_neg hc] at h
    exact absurd rfl h

set_option maxRecDepth 100000 in
set_option maxHeartbeats 4000000 in
theorem fRead_any (no : Int) (A : Option Addr) (b : List UInt8) (c : Nat) (at_ : Int) (W : World) (hl : b.length ≤ 3000) (hc : b.length ≤ c) (hcm : c ≤ 9223372036854775807) (hr : Rd W W.heap.size A b) (hT : Tb W) :
    Calls Tryd.prog 18 #[.int .i64 no, .slice A b.length c, .int .i64 at_] W fun e W' => Ans3 W' e (readF no b at_).1 (readF no b at_).1.length (readF no b at_).2.1 (readF no b at_).2.2 ∧ Below W.heap.size W W' := by
  have CO := Lib.hid (fOf_any no W hT)
  by_cases hk : fk no = 0
  · rw [read_none no b at_ hk]
    have e0 : decide (fk no ≠ 0) = false := decide_eq_false (by omega)
    rw [e0] at CO
    clear e0 hk hr hT
    generalize fk no = k at *
    generalize fl no = n at *
    generalize b.length = M at *
    go_enter Tryd.func18, Tryd.ntmps18
    go_wp2_with fail
    refine CO.out.mono ?_
    rintro e w1 ⟨rfl, hb⟩
    have HB := Lib.hid (hb.alloc hb.size (.cells #[.int .i64 (k : Int), .int .i64 (n : Int)] 25))
    clear hb CO
    go_wp2
    go_ret3
    exact ⟨Ans3.none, HB.out⟩
  have e0 : decide (fk no ≠ 0) = true := decide_eq_true hk
  rw [e0] at CO
  by_cases ha : at_ < 0 ∨ (b.length : Int) < at_
  · have HE : readF no b at_ = ([], 0, 1) := by unfold readF; rw [if_neg hk, if_pos ha]
    rw [HE]
    clear hk hr hT HE e0
    generalize fk no = k at *
    generalize fl no = n at *
    generalize b.length = M at *
    by_cases h1 : at_ < 0
    · go_enter Tryd.func18, Tryd.ntmps18
      go_wp2_with fail
      refine CO.out.mono ?_
      rintro e w1 ⟨rfl, hb⟩
      have HB := Lib.hid (hb.alloc hb.size (.cells #[.int .i64 (k : Int), .int .i64 (n : Int)] 25))
      clear hb CO
      go_wp2
      go_ret3
      exact ⟨Ans3.none, HB.out⟩
    · have h2 : (M : Int) < at_ := by omega
      clear ha
      go_enter Tryd.func18, Tryd.ntmps18
      go_wp2_with fail
      refine CO.out.mono ?_
      rintro e w1 ⟨rfl, hb⟩
      have HB := Lib.hid (hb.alloc hb.size (.cells #[.int .i64 (k : Int), .int .i64 (n : Int)] 25))
      clear hb CO
      go_wp2
      go_ret3
      exact ⟨Ans3.none, HB.out⟩
  obtain ⟨p, rfl⟩ := Int.eq_ofNat_of_zero_le (show 0 ≤ at_ by omega)
  have hp : p ≤ b.length := by omega
  have d1 : ¬ (p : Int) < 0 := by omega
  have d2 : ¬ (b.length : Int) < (p : Int) := by omega
  have HR : readF no b (p : Int) = readH (fk no) (fl no) b p := by unfold readF; rw [if_neg hk, if_neg ha]; rfl
  rw [HR]
  have CS := Lib.hid (fun w => shapeOf_any (fk no) (form_1 hk).1 (form_1 hk).2 w)
  have CC := Lib.hid (fun g w (h : Below W.heap.size W w) => takeCount5_any (fk no) (fl no) g A b c p (form_1 hk).1 (form_1 hk).2 w (by omega) hc ((hr.below h (Nat.le_refl _)).more h.size))
  have bd := (form_le no).2
  clear HR ha e0
  obtain ⟨V, hVx⟩ : ∃ V : World, V = V := ⟨W, rfl⟩
  clear hVx V
  by_cases hE : (tcF (fk no) (fl no) b p).2.2 = 0
  · obtain ⟨m, q, hm, hq, hm9, hqb, hRB⟩ := tcF_ok (fk no) (fl no) b p bd hp hE
    rw [hRB, readB_code (fk no) (fl no) b q m hm9 hqb]
    have CI := Lib.hid (fun g w (h : Below W.heap.size W w) => takeItself5_any (fk no) g A b c q m w hqb hm9 (by omega) hc hcm ((hr.below h (Nat.le_refl _)).more h.size))
    have hul : (tiF (fk no) b q m).1.length ≤ 3000 := by
      unfold tiF
      split
      · by_cases h0 : (tbS b q m).2.2 = 0
        · have := (tbS_ok b q m h0).2.2.1; omega
        · have he : (tbS b q m).1 = [] := by
            revert h0
            unfold tbS
            split
            · intro; rfl
            · split
              · intro; rfl
              · split
                · intro h; exact absurd rfl h
                · intro; rfl
          rw [he]; simp
      · split
        · simp
        · simp; omega
    have CF := Lib.hid (fun (A' : Option Addr) c' w (h : Rd w w.heap.size A' (tiF (fk no) b q m).1) => fits5_any (fk no) (fl no) A' (tiF (fk no) b q m).1 c' (form_1 hk).1 (form_1 hk).2 w (by omega) h)
    rw [hE, hm, hq] at CC
    clear hE hm hq hm9 hqb hRB hul hk hp hT hr
    unfold shV mayV at CS CC CI
    generalize fitF (fk no) (fl no) (tiF (fk no) b q m).1 = T at *
    generalize (tiF (fk no) b q m).1 = U at *
    generalize (tiF (fk no) b q m).2.1 = I at *
    generalize (tiF (fk no) b q m).2.2 = E at *
    generalize decide (fk no ≤ 2) = P at *
    generalize loF (fk no) = lo at *
    generalize hiF (fk no) = hi at *
    generalize cntF (fk no) = L at *
    generalize fk no = k at *
    generalize fl no = n at *
    generalize b.length = M at *
    obtain ⟨N, hN⟩ : ∃ N, N = U.length := ⟨_, rfl⟩
    have HN := Lib.hid hN
    rw [← hN] at CI CF
    clear hN
    by_cases he : E = 0
    · subst he
      rw [if_pos rfl]
      go_enter Tryd.func18, Tryd.ntmps18
      go_wp2_with fail
      refine CO.out.mono ?_
      rintro e w1 ⟨rfl, hb⟩
      have hb2 := hb.alloc hb.size (.cells #[.int .i64 (k : Int), .int .i64 (n : Int)] 25)
      have HF := Lib.hid (heap_alloc_new w1 (.cells #[.int .i64 (k : Int), .int .i64 (n : Int)] 25))
      obtain ⟨V1, hV1⟩ : ∃ V, V = w1.alloc (.cells #[.int .i64 (k : Int), .int .i64 (n : Int)] 25) := ⟨_, rfl⟩
      rw [← hV1] at hb2 HF
      have HB1 := Lib.hid hb2
      have HV1 := Lib.hid hV1
      obtain ⟨f0, f1⟩ := cells2 HF.out
      rw [hV1] at f0 f1
      clear hb CO hb2 hV1
      go_wp2_with fail
      rw [← HV1.out]
      refine (CS.out V1).mono ?_
      rintro e w3 ⟨⟨g, rfl, -⟩, hb⟩
      have hb3 := bel5 HB1.out hb HB1.out.size
      have hf3 := old5 HF.out hb (Nat.le_refl _)
      obtain ⟨V, hV, hbV, hS⟩ := box_shape w3 L P (.func (.func 46) #[] #[.pointer (some ⟨g, 0, none⟩), .pointer (some ⟨g + 1, 0, none⟩)])
      have HF4 := Lib.hid (old5 hf3 hbV (Nat.le_refl _))
      have HBV := Lib.hid (bel5 hb3 hbV hb3.size)
      have HS := Lib.hid hS
      have HV := Lib.hid hV
      clear f0 f1 hb hb3 hbV hS hV hf3 HB1 HF HV1 CS
      obtain ⟨f0, f1⟩ := cells2 HF4.out
      obtain ⟨x0, x1, x2⟩ := cellsS HS.out
      go_wp2_with (with_reducible refine at_list5 ?_; first | (refine storeS _ (.tmp 11) (.tmp 32) w3.heap.size (.int .i64 (L : Int)) (.bool P) (.func (.func 46) #[] #[.pointer (some ⟨g, 0, none⟩), .pointer (some ⟨g + 1, 0, none⟩)]) #[.int .i64 0, .bool false, .nilFunc] (by exact heap_alloc_new w3 _) rfl (by simp [Value.oneCell']) rfl rfl rfl rfl ?_; rw [foldS, ← HV.out]) | (refine loadS V (.tmp 11) w3.heap.size _ _ _ HS.out rfl rfl rfl ?_))
      refine (CC.out g V HBV.out).mono ?_
      rintro e w4 ⟨rfl, hb⟩
      have HB4 := Lib.hid (bel5 HBV.out hb HBV.out.size)
      have HF5 := Lib.hid (old5 HF4.out hb (Nat.le_refl _))
      have HS5 := Lib.hid (old5 HS.out hb (Nat.le_refl _))
      clear f0 f1 x0 x1 x2 hb HBV HF4 HS HV CC
      obtain ⟨x0, x1, x2⟩ := cellsS HS5.out
      obtain ⟨s, hs⟩ : ∃ s, s = w3.heap.size := ⟨_, rfl⟩
      rw [← hs] at HS5 x0 x1 x2 ⊢
      clear hs
      go_wp2_with (with_reducible refine at_list5 ?_; refine loadS w4 (.tmp 11) s _ _ _ HS5.out rfl rfl rfl ?_)
      refine (CI.out g w4 HB4.out).mono ?_
      rintro e w5 ⟨⟨A1, c1, rfl, h1, h2, h3⟩, hb⟩
      have HB5 := Lib.hid (bel5 HB4.out hb HB4.out.size)
      have HF6 := Lib.hid (old5 HF5.out hb (Nat.le_refl _))
      have R5 := Lib.hid h3
      clear hb HB4 HF5 HS5 CI h3 x0 x1 x2
      obtain ⟨f0, f1⟩ := cells2 HF6.out
      go_wp2_with fail
      refine (CF.out A1 c1 w5 R5.out).mono ?_
      rintro e w6 ⟨rfl, hb⟩
      have HB6 := Lib.hid (bel5 HB5.out hb HB5.out.size)
      have R6 := Lib.hid ((R5.out.below hb (Nat.le_refl _)).more hb.size)
      clear hb HB5 R5 CF f0 f1
      cases T with
      | false =>
        go_wp2
        go_ret3
        exact ⟨Ans3.none, HB6.out⟩
      | true =>
        go_wp2
        go_ret3
        exact ⟨⟨A1, c1, by rw [HN.out]; rfl, by show U.length ≤ c1; rw [← HN.out]; exact h1, h2, R6.out⟩, HB6.out⟩
    · rw [if_neg he]
      clear CF
      go_enter Tryd.func18, Tryd.ntmps18
      go_wp2_with fail
      refine CO.out.mono ?_
      rintro e w1 ⟨rfl, hb⟩
      have hb2 := hb.alloc hb.size (.cells #[.int .i64 (k : Int), .int .i64 (n : Int)] 25)
      have HF := Lib.hid (heap_alloc_new w1 (.cells #[.int .i64 (k : Int), .int .i64 (n : Int)] 25))
      obtain ⟨V1, hV1⟩ : ∃ V, V = w1.alloc (.cells #[.int .i64 (k : Int), .int .i64 (n : Int)] 25) := ⟨_, rfl⟩
      rw [← hV1] at hb2 HF
      have HB1 := Lib.hid hb2
      have HV1 := Lib.hid hV1
      obtain ⟨f0, f1⟩ := cells2 HF.out
      rw [hV1] at f0 f1
      clear hb CO hb2 hV1
      go_wp2_with fail
      rw [← HV1.out]
      refine (CS.out V1).mono ?_
      rintro e w3 ⟨⟨g, rfl, -⟩, hb⟩
      have hb3 := bel5 HB1.out hb HB1.out.size
      have hf3 := old5 HF.out hb (Nat.le_refl _)
      obtain ⟨V, hV, hbV, hS⟩ := box_shape w3 L P (.func (.func 46) #[] #[.pointer (some ⟨g, 0, none⟩), .pointer (some ⟨g + 1, 0, none⟩)])
      have HF4 := Lib.hid (old5 hf3 hbV (Nat.le_refl _))
      have HBV := Lib.hid (bel5 hb3 hbV hb3.size)
      have HS := Lib.hid hS
      have HV := Lib.hid hV
      clear f0 f1 hb hb3 hbV hS hV hf3 HB1 HF HV1 CS
      obtain ⟨f0, f1⟩ := cells2 HF4.out
      obtain ⟨x0, x1, x2⟩ := cellsS HS.out
      go_wp2_with (with_reducible refine at_list5 ?_; first | (refine storeS _ (.tmp 11) (.tmp 32) w3.heap.size (.int .i64 (L : Int)) (.bool P) (.func (.func 46) #[] #[.pointer (some ⟨g, 0, none⟩), .pointer (some ⟨g + 1, 0, none⟩)]) #[.int .i64 0, .bool false, .nilFunc] (by exact heap_alloc_new w3 _) rfl (by simp [Value.oneCell']) rfl rfl rfl rfl ?_; rw [foldS, ← HV.out]) | (refine loadS V (.tmp 11) w3.heap.size _ _ _ HS.out rfl rfl rfl ?_))
      refine (CC.out g V HBV.out).mono ?_
      rintro e w4 ⟨rfl, hb⟩
      have HB4 := Lib.hid (bel5 HBV.out hb HBV.out.size)
      have HF5 := Lib.hid (old5 HF4.out hb (Nat.le_refl _))
      have HS5 := Lib.hid (old5 HS.out hb (Nat.le_refl _))
      clear f0 f1 x0 x1 x2 hb HBV HF4 HS HV CC
      obtain ⟨x0, x1, x2⟩ := cellsS HS5.out
      obtain ⟨s, hs⟩ : ∃ s, s = w3.heap.size := ⟨_, rfl⟩
      rw [← hs] at HS5 x0 x1 x2 ⊢
      clear hs
      go_wp2_with (with_reducible refine at_list5 ?_; refine loadS w4 (.tmp 11) s _ _ _ HS5.out rfl rfl rfl ?_)
      refine (CI.out g w4 HB4.out).mono ?_
      rintro e w5 ⟨⟨A1, c1, rfl, h1, h2, h3⟩, hb⟩
      have HB5 := Lib.hid (bel5 HB4.out hb HB4.out.size)
      have HF6 := Lib.hid (old5 HF5.out hb (Nat.le_refl _))
      have R5 := Lib.hid h3
      clear hb HB4 HF5 HS5 CI h3 x0 x1 x2
      go_wp2
      go_ret3
      exact ⟨Ans3.none, HB5.out⟩
  · rw [tcF_bad (fk no) (fl no) b p hE]
    unfold shV mayV at CS CC
    generalize (tcF (fk no) (fl no) b p).2.2 = E at *
    generalize (tcF (fk no) (fl no) b p).2.1 = I at *
    generalize (tcF (fk no) (fl no) b p).1 = X at *
    clear hk hp hT hr
    generalize decide (fk no ≤ 2) = P at *
    generalize loF (fk no) = lo at *
    generalize hiF (fk no) = hi at *
    generalize cntF (fk no) = L at *
    generalize fk no = k at *
    generalize fl no = n at *
    generalize b.length = M at *
    go_enter Tryd.func18, Tryd.ntmps18
    go_wp2_with fail
    refine CO.out.mono ?_
    rintro e w1 ⟨rfl, hb⟩
    have hb2 := hb.alloc hb.size (.cells #[.int .i64 (k : Int), .int .i64 (n : Int)] 25)
    have HF := Lib.hid (heap_alloc_new w1 (.cells #[.int .i64 (k : Int), .int .i64 (n : Int)] 25))
    obtain ⟨V1, hV1⟩ : ∃ V, V = w1.alloc (.cells #[.int .i64 (k : Int), .int .i64 (n : Int)] 25) := ⟨_, rfl⟩
    rw [← hV1] at hb2 HF
    have HB1 := Lib.hid hb2
    have HV1 := Lib.hid hV1
    obtain ⟨f0, f1⟩ := cells2 HF.out
    rw [hV1] at f0 f1
    clear hb CO hb2 hV1
    go_wp2_with fail
    rw [← HV1.out]
    refine (CS.out V1).mono ?_
    rintro e w3 ⟨⟨g, rfl, -⟩, hb⟩
    have hb3 := bel5 HB1.out hb HB1.out.size
    have hf3 := old5 HF.out hb (Nat.le_refl _)
    obtain ⟨V, hV, hbV, hS⟩ := box_shape w3 L P (.func (.func 46) #[] #[.pointer (some ⟨g, 0, none⟩), .pointer (some ⟨g + 1, 0, none⟩)])
    have HF4 := Lib.hid (old5 hf3 hbV (Nat.le_refl _))
    have HBV := Lib.hid (bel5 hb3 hbV hb3.size)
    have HS := Lib.hid hS
    have HV := Lib.hid hV
    clear f0 f1 hb hb3 hbV hS hV hf3 HB1 HF HV1 CS
    obtain ⟨f0, f1⟩ := cells2 HF4.out
    obtain ⟨x0, x1, x2⟩ := cellsS HS.out
    go_wp2_with (with_reducible refine at_list5 ?_; first | (refine storeS _ (.tmp 11) (.tmp 32) w3.heap.size (.int .i64 (L : Int)) (.bool P) (.func (.func 46) #[] #[.pointer (some ⟨g, 0, none⟩), .pointer (some ⟨g + 1, 0, none⟩)]) #[.int .i64 0, .bool false, .nilFunc] (by exact heap_alloc_new w3 _) rfl (by simp [Value.oneCell']) rfl rfl rfl rfl ?_; rw [foldS, ← HV.out]) | (refine loadS V (.tmp 11) w3.heap.size _ _ _ HS.out rfl rfl rfl ?_))
    refine (CC.out g V HBV.out).mono ?_
    rintro e w4 ⟨rfl, hb⟩
    have HB4 := Lib.hid (bel5 HBV.out hb HBV.out.size)
    have HF5 := Lib.hid (old5 HF4.out hb (Nat.le_refl _))
    have HS5 := Lib.hid (old5 HS.out hb (Nat.le_refl _))
    clear f0 f1 x0 x1 x2 hb HBV HF4 HS HV CC
    go_wp2
    go_ret3
    exact ⟨Ans3.none, HB4.out⟩
end Go.Proofs.YtecdmdgpmbgaaaaDoor
