
/- field's takeCount, takeItself. -/
import Derived.Test.YtecdmdgpmbgaaaaDoorFldW
namespace Go.Proofs.YtecdmdgpmbgaaaaDoor
open Go.RowKit

def tcF (k n : Nat) (b : List UInt8) (q : Nat) : Int × Int × Int :=
  if 0 < cntF k then
    (if (tbS b q (cntF k : Nat)).2.2 = 0 then
      (if lenF k n (val (tbS b q (cntF k : Nat)).1) = true then ((val (tbS b q (cntF k : Nat)).1 : Nat), ((q + (cntF k + 1) / 2 : Nat) : Int), 0) else (0, 0, 2))
     else (0, 0, (tbS b q (cntF k : Nat)).2.2))
  else ((n : Nat), (q : Nat), 0)
def tiF (k : Nat) (b : List UInt8) (q m : Nat) : List UInt8 × Int × Int :=
  if k ≤ 2 then tbS b q m else if b.length < q + m then ([], 0, 3) else ((b.drop q).take m, ((q + m : Nat) : Int), 0)

set_option maxRecDepth 100000 in
set_option maxHeartbeats 1000000 in
theorem takeCount5_any (k n g : Nat) (A : Option Addr) (b : List UInt8) (c q : Nat) (h1 : 1 ≤ k) (h7 : k ≤ 7) (W : World) (hl : b.length ≤ 10000) (hc : b.length ≤ c) (hr : Rd W W.heap.size A b) :
    Calls Tryd.prog 31 #[shV k g, .slice A b.length c, .int .i64 (q : Int), .int .i64 (n : Int)] W fun e W' => e = .returned (.tuple #[.int .i64 (tcF k n b q).1, .int .i64 (tcF k n b q).2.1, .int .i64 (tcF k n b q).2.2]) ∧ Below W.heap.size W W' := by
  unfold tcF
  have CL := Lib.hid (fun (m : Nat) w => mayBe_any k m n g h1 h7 w)
  unfold shV mayV at CL ⊢
  generalize decide (k ≤ 2) = P at *
  by_cases hz : cntF k = 0
  · rw [if_neg (by omega), hz]
    clear CL hz h1 h7 hr
    have HB := Lib.hid (fun (o : Obj) => (Below.refl W.heap.size W).alloc (Nat.le_refl _) o)
    generalize b.length = M at *
    go_enter Tryd.func31, Tryd.ntmps31
    go_wp2
    go_ret3
    exact ⟨rfl, HB.out _⟩
  · have hL : 1 ≤ cntF k ∧ cntF k ≤ 18 := by rcases cnt_cases k with ⟨e, -⟩ | ⟨e, -⟩ | ⟨e, -⟩ <;> omega
    rw [if_pos (by omega)]
    have CT := Lib.hid (fun w (h : Below W.heap.size W w) => takeBcd_all A b c q (cntF k : Nat) w (by omega) hc ((hr.below h (Nat.le_refl _)).more h.size))
    have hz0 : ¬ ((cntF k : Nat) : Int) = 0 := by omega
    have hok := tbS_ok b q (cntF k)
    have CV := Lib.hid (fun (h : (tbS b q (cntF k : Nat)).2.2 = 0) w => (show Calls Tryd.prog 44 #[.string ⟨(tbS b q (cntF k : Nat)).1.toArray⟩] w fun e W' => e = .returned (.tuple #[.int .i64 ((val (tbS b q (cntF k : Nat)).1 : Nat) : Int), .int .i64 0]) ∧ Below w.heap.size w W' from by
      obtain ⟨-, -, hlen, hfig, -⟩ := hok h
      have h2 := value_all ⟨(tbS b q (cntF k : Nat)).1.toArray⟩ w (by show (tbS b q (cntF k : Nat)).1.toArray.size ≤ _; simp; omega)
      have e : valR (⟨(tbS b q (cntF k : Nat)).1.toArray⟩ : ByteArray).data.toList = (val (tbS b q (cntF k : Nat)).1, 0) := by
        show valR (tbS b q (cntF k : Nat)).1 = _
        unfold valR
        rw [if_pos ⟨by omega, by omega, hfig⟩]
      rw [e] at h2
      exact h2))
    have HK := Lib.hid (fun (h : (tbS b q (cntF k : Nat)).2.2 = 0) => (hok h).2.1)
    generalize (tbS b q (cntF k : Nat)).1.toArray = SA at *
    generalize val (tbS b q (cntF k : Nat)).1 = X at *
    generalize (tbS b q (cntF k : Nat)).2.2 = E at *
    generalize (tbS b q (cntF k : Nat)).2.1 = I at *
    have HL := Lib.hid (CL.out X)
    generalize lenF k n X = LN at *
    clear hok hz hL CL h1 h7 hr
    obtain ⟨R, hR⟩ : ∃ R, R = (cntF k + 1) / 2 := ⟨_, rfl⟩
    rw [← hR] at HK ⊢
    clear hR
    generalize cntF k = L at *
    generalize b.length = M at *
    obtain ⟨V, hV, hb, hs⟩ := box_shape W L P (.func (.func 46) #[] #[.pointer (some ⟨g, 0, none⟩), .pointer (some ⟨g + 1, 0, none⟩)])
    obtain ⟨x0, -, -⟩ := cellsS hs
    have HB := Lib.hid hb
    have HV := Lib.hid hV
    have HS := Lib.hid hs
    clear hb hV hs
    by_cases he : E = 0
    · subst he
      rw [if_pos rfl]
      have HI := Lib.hid (HK.out rfl)
      have CV2 := Lib.hid (CV.out rfl)
      clear CV HK
      go_enter Tryd.func31, Tryd.ntmps31
      go_wp2_with fail
      rw [← HV.out]
      refine (CT.out _ HB.out).mono ?_
      rintro e w1 ⟨rfl, hb⟩
      have HB1 := Lib.hid (bel5 HB.out hb HB.out.size)
      have HS1 := Lib.hid (old5 HS.out hb (Nat.le_refl _))
      clear hb HB CT x0 HV HS
      go_wp2_with fail
      refine (CV2.out _).mono ?_
      rintro e w2 ⟨rfl, hb⟩
      have HB2 := Lib.hid (bel5 HB1.out hb HB1.out.size)
      have HS2 := Lib.hid (old5 HS1.out hb (Nat.le_refl _))
      clear hb HB1 CV2 HS1
      go_wp2_with (with_reducible refine at_list5 ?_; refine loadS w2 (.tmp 4) W.heap.size _ _ _ HS2.out rfl rfl rfl ?_)
      refine (HL.out _).mono ?_
      rintro e w3 ⟨rfl, hb⟩
      have HB3 := Lib.hid (bel5 HB2.out hb HB2.out.size)
      clear hb HB2 HL HS2
      cases LN with
      | false =>
        go_wp2
        go_ret3
        exact ⟨rfl, HB3.out⟩
      | true =>
        go_wp2
        go_ret3
        exact ⟨by rw [HI.out]; rfl, HB3.out⟩
    · rw [if_neg he]
      clear HL CV HK
      go_enter Tryd.func31, Tryd.ntmps31
      go_wp2_with fail
      rw [← HV.out]
      refine (CT.out _ HB.out).mono ?_
      rintro e w1 ⟨rfl, hb⟩
      have HB1 := Lib.hid (bel5 HB.out hb HB.out.size)
      clear hb HB CT x0 HV HS
      go_wp2
      go_ret3
      exact ⟨rfl, HB1.out⟩

set_option maxRecDepth 100000 in
set_option maxHeartbeats 1000000 in
theorem takeItself5_any (k g : Nat) (A : Option Addr) (b : List UInt8) (c q m : Nat) (W : World) (hq : q ≤ b.length) (hm9 : m ≤ 999) (hl : b.length ≤ 10000) (hc : b.length ≤ c) (hcm : c ≤ 9223372036854775807) (hr : Rd W W.heap.size A b) :
    Calls Tryd.prog 32 #[shV k g, .slice A b.length c, .int .i64 (q : Int), .int .i64 (m : Int)] W fun e W' => Ans3 W' e (tiF k b q m).1 (tiF k b q m).1.length (tiF k b q m).2.1 (tiF k b q m).2.2 ∧ Below W.heap.size W W' := by
  unfold tiF shV mayV
  generalize cntF k = L at *
  by_cases hk : k ≤ 2
  · rw [decide_eq_true hk, if_pos hk]
    have CT := Lib.hid (fun w (h : Below W.heap.size W w) => takeBcd_all A b c q m w (by omega) hc ((hr.below h (Nat.le_refl _)).more h.size))
    have hlen : (tbS b q m).1.length ≤ 100000 := by
      by_cases h0 : (tbS b q m).2.2 = 0
      · have := (tbS_ok b q m h0).2.2.1
        omega
      · have he : (tbS b q m).1 = [] := by
          revert h0
          unfold tbS
          split
          · intro; rfl
          · split
            · intro; rfl
            · split
              · intro h; exact absurd rfl h
              · intro; rfl
        rw [he]; simp
    obtain ⟨cc, ww, hcv⟩ := conv5 (tbS b q m).1 hlen
    clear hlen hr hk
    generalize (tbS b q m).1 = S at *
    generalize (tbS b q m).2.1 = I at *
    generalize (tbS b q m).2.2 = E at *
    generalize S.toArray = SA at *
    generalize S.length = SL at *
    generalize b.length = M at *
    obtain ⟨V, hV, hb, hs⟩ := box_shape W L true (.func (.func 46) #[] #[.pointer (some ⟨g, 0, none⟩), .pointer (some ⟨g + 1, 0, none⟩)])
    obtain ⟨-, x1, -⟩ := cellsS hs
    have HB := Lib.hid hb
    have HV := Lib.hid hV
    rw [hV] at x1
    have HCV := Lib.hid hcv
    clear hb hV hs hcv
    go_enter Tryd.func32, Tryd.ntmps32
    go_wp2_with fail
    rw [← HV.out]
    refine (CT.out _ HB.out).mono ?_
    rintro e w1 ⟨rfl, hb⟩
    have HB1 := Lib.hid (bel5 HB.out hb HB.out.size)
    obtain ⟨hrun, hrd, hbw, hcc, hcc2⟩ := HCV.out w1
    have HB2 := Lib.hid (bel5 HB1.out hbw HB1.out.size)
    have HR2 := Lib.hid hrd
    clear hb HB CT x1 HV HCV hrd hbw
    go_wp2
    go_ret3
    exact ⟨⟨_, _, rfl, hcc, hcc2, HR2.out⟩, HB2.out⟩
  · rw [decide_eq_false hk, if_neg hk]
    have RB := Lib.hid (fun w (h : Below W.heap.size W w) => (hr.below h (Nat.le_refl _)).more h.size)
    obtain ⟨V, hV, hb, hs⟩ := box_shape W L false (.func (.func 46) #[] #[.pointer (some ⟨g, 0, none⟩), .pointer (some ⟨g + 1, 0, none⟩)])
    obtain ⟨-, x1, -⟩ := cellsS hs
    have HB := Lib.hid hb
    have HV := Lib.hid hV
    rw [hV] at x1
    clear hb hV hs hr hk
    by_cases hs : b.length < q + m
    · rw [if_pos hs]
      have hsi : (b.length : Int) - (q : Int) < (m : Int) := by omega
      generalize b.length = M at *
      clear hs RB
      rw [HV.out] at HB
      go_enter Tryd.func32, Tryd.ntmps32
      go_wp2
      go_ret3
      exact ⟨Ans3.none, HB.out⟩
    · rw [if_neg hs]
      have hsi : ¬ (b.length : Int) - (q : Int) < (m : Int) := by omega
      have hlen : ((b.drop q).take m).length = m := by rw [List.length_take, List.length_drop]; omega
      have CC := Lib.hid (fun w (h : Below W.heap.size W w) => (show Calls Tryd.prog 45 #[.slice (if c = q then A else A.map (·.add (q * 1))) m (c - q)] w fun e w' => AnsB5 w' e ((b.drop q).take m) m ∧ Below w.heap.size w w' from by
        have h2 := clone5_any (if c = q then A else A.map (·.add (q * 1))) ((b.drop q).take m) (c - q) w (by omega) ((RB.out w h).cut q m c (by omega) hc)
        rw [hlen] at h2
        exact h2))
      have e1 : ((q + m : Nat) : Int) = (q : Int) + (m : Int) := by omega
      dsimp only
      rw [hlen, e1]
      have hqm : q + m ≤ b.length := by omega
      have hqM : (q : Int) + (m : Int) ≤ (b.length : Int) := by omega
      have hqc : (q : Int) + (m : Int) ≤ (c : Int) := by omega
      have e2 : ((q : Int) + (m : Int)).toNat - q = m := by omega
      clear hs hlen e1 RB
      generalize (b.drop q).take m = Q at *
      generalize b.length = M at *
      by_cases hcq : c = q
      · rw [if_pos hcq, show c - q = 0 by omega] at CC
        go_enter Tryd.func32, Tryd.ntmps32
        go_wp2_with fail
        rw [← HV.out]
        refine (CC.out _ HB.out).mono ?_
        rintro e w2 ⟨⟨A1, c1, rfl, h1, h2, h3⟩, hb⟩
        have HB2 := Lib.hid (bel5 HB.out hb HB.out.size)
        have HR := Lib.hid h3
        clear hb HB CC h3 x1
        go_wp2_with fail
        go_ret3
        exact ⟨⟨A1, c1, rfl, h1, h2, HR.out⟩, HB2.out⟩
      · rw [if_neg hcq, Nat.mul_one] at CC
        go_enter Tryd.func32, Tryd.ntmps32
        go_wp2_with fail
        rw [← HV.out]
        refine (CC.out _ HB.out).mono ?_
        rintro e w2 ⟨⟨A1, c1, rfl, h1, h2, h3⟩, hb⟩
        have HB2 := Lib.hid (bel5 HB.out hb HB.out.size)
        have HR := Lib.hid h3
        clear hb HB CC h3 x1
        go_wp2_with fail
        go_ret3
        exact ⟨⟨A1, c1, rfl, h1, h2, HR.out⟩, HB2.out⟩
end Go.Proofs.YtecdmdgpmbgaaaaDoor
