
/- field's takeCount, takeItself. -/
import Derived.Test.YtpfjecjfooefoaaDoorJ31
import Derived.Test.YtpfjecjfooefoaaDoorJ13
import Derived.Test.YtpfjecjfooefoaaDoorJ29
namespace Go.Proofs.YtpfjecjfooefoaaDoor
open Go.RowKit

def tcF (k n : Nat) (b : List UInt8) (q : Nat) : Int × Int × Int :=
  if 0 < cntF k then
    (if (tbS b q (cntF k : Nat)).2.2 = 0 then
      (if lenF k n (val (tbS b q (cntF k : Nat)).1) = true then ((val (tbS b q (cntF k : Nat)).1 : Nat), ((q + (cntF k + 1) / 2 : Nat) : Int), 0) else (0, 0, 2))
     else (0, 0, (tbS b q (cntF k : Nat)).2.2))
  else ((n : Nat), (q : Nat), 0)
def tiF (k : Nat) (b : List UInt8) (q m : Nat) : List UInt8 × Int × Int :=
  if k ≤ 2 then tbS b q m else if b.length < q + m then ([], 0, 3) else ((b.drop q).take m, ((q + m : Nat) : Int), 0)

set_option maxRecDepth 100000 in
set_option maxHeartbeats 1000000 in
theorem takeCount5_any (k n g : Nat) (A : Option Addr) (b : List UInt8) (c q : Nat) (h1 : 1 ≤ k) (h7 : k ≤ 7) (W : World) (hl : b.length ≤ 90000) (hc : b.length ≤ c) (hr : Rd W W.heap.size A b) :
    Calls Tryd.prog 104 #[shV k g, .slice A b.length c, .int .i64 (q : Int), .int .i64 (n : Int)] W fun e W' => e = .returned (.tuple #[.int .i64 (tcF k n b q).1, .int .i64 (tcF k n b q).2.1, .int .i64 (tcF k n b q).2.2]) ∧ Below W.heap.size W W' := by
  unfold tcF
  have CL := Lib.hid (fun (m : Nat) w => mayBe_any k m n g h1 h7 w)
  unfold shV mayV at CL ⊢
  generalize decide (k ≤ 2) = P at *
  by_cases hz : cntF k = 0
  · rw [if_neg (by omega), hz]
    clear CL hz h1 h7 hr
    have HB := Lib.hid (fun (o : Obj) => (Below.refl W.heap.size W).alloc (Nat.le_refl _) o)
    generalize b.length = M at *
    go_enter Tryd.func104, Tryd.ntmps104
    go_wp2
    go_ret3
    exact ⟨rfl, HB.out _⟩
  · have hL : 1 ≤ cntF k ∧ cntF k ≤ 18 := by rcases cnt_cases k with ⟨e, -⟩ | ⟨e, -⟩ | ⟨e, -⟩ <;> omega
    rw [if_pos (by omega)]
    have CT := Lib.hid (fun w (h : Below W.heap.size W w) => takeBcd_all A b c q (cntF k : Nat) w (by omega) hc ((hr.below h (Nat.le_refl _)).more h.size))
    have hz0 : ¬ ((cntF k : Nat) : Int) = 0 := by omega
    have hok := tbS_ok b q (cntF k)
    have CV := Lib.hid (fun (h : (tbS b q (cntF k : Nat)).2.2 = 0) w => (show Calls Tryd.prog 86 #[.string ⟨(tbS b q (cntF k : Nat)).1.toArray⟩] w fun e W' => e = .returned (.tuple #[.int .i64 ((val (tbS b q (cntF k : Nat)).1 : Nat) : Int), .int .i64 0]) ∧ Below w.heap.size w W' from by
      obtain ⟨-, -, hlen, hfig, -⟩ := hok h
      have h2 := value_all ⟨(tbS b q (cntF k : Nat)).1.toArray⟩ w (by show (tbS b q (cntF k : Nat)).1.toArray.size ≤ _; simp; omega)
      have e : valR (⟨(tbS b q (cntF k : Nat)).1.toArray⟩ : ByteArray).data.toList = (val (tbS b q (cntF k : Nat)).1, 0) := by
        show valR (tbS b q (cntF k : Nat)).1 = _
        unfold valR
        rw [if_pos ⟨by omega, by omega, hfig⟩]
      rw [e] at h2
      exact h2))
    have HK := Lib.hid (fun (h : (tbS b q (cntF k : Nat)).2.2 = 0) => (hok h).2.1)
    generalize (tbS b q (cntF k : Nat)).1.toArray = SA at *
    generalize val (tbS b q (cntF k : Nat)).1 = X at *
    generalize (tbS b q (cntF k : Nat)).2.2 = E at *
    generalize (tbS b q (cntF k : Nat)).2.1 = I at *
    have HL := Lib.hid (CL.out X)
    generalize lenF k n X = LN at *
    clear hok hz hL CL h1 h7 hr
    obtain ⟨R, hR⟩ : ∃ R, R = (cntF k + 1) / 2 := ⟨_, rfl⟩
    rw [← hR] at HK ⊢
    clear hR
    generalize cntF k = L at *
    generalize b.length = M at *
    obtain ⟨V, hV, hb, hs⟩ := box_shape W L P (.func (.func 108) #[] #[.pointer (some ⟨g, 0, none⟩), .pointer (some ⟨g + 1, 0, none⟩)])
    obtain ⟨x0, -, -⟩ := cellsS hs
    have HB := Lib.hid hb
    have HV := Lib.hid hV
    have HS := Lib.hid hs
    clear hb hV hs
    by_cases he : E = 0
    · subst he
      rw [if_pos rfl]
      have HI := Lib.hid (HK.out rfl)
      have CV2 := Lib.hid (CV.out rfl)
      clear CV HK
      go_enter Tryd.func104, Tryd.ntmps104
      go_wp2_with fail
      rw [← HV.out]
      refine (CT.out _ HB.out).mono ?_
      rintro e w1 ⟨rfl, hb⟩
      have HB1 := Lib.hid (bel5 HB.out hb HB.out.size)
      have HS1 := Lib.hid (old5 HS.out hb (Nat.le_refl _))
      clear hb HB CT x0 HV HS
      go_wp2_with fail
      refine (CV2.out _).mono ?_
      rintro e w2 ⟨rfl, hb⟩
      have HB2 := Lib.hid (bel5 HB1.out hb HB1.out.size)
      have HS2 := Lib.hid (old5 HS1.out hb (Nat.le_refl _))
      clear hb HB1 CV2 HS1
      go_wp2_with (with_reducible refine at_list5 ?_; refine loadS w2 (.tmp 4) W.heap.size _ _ _ HS2.out rfl rfl rfl ?_)
      refine (HL.out _).mono ?_
      rintro e w3 ⟨rfl, hb⟩
      have HB3 := Lib.hid (bel5 HB2.out hb HB2.out.size)
      clear hb HB2 HL HS2
      cases LN with
      | false =>
        go_wp2
        go_ret3
        exact ⟨rfl, HB3.out⟩
      | true =>
        go_wp2
        go_ret3
        exact ⟨by rw [HI.out]; rfl, HB3.out⟩
    · rw [if_neg he]
      clear HL CV HK
      go_enter Tryd.func104, Tryd.ntmps104
      go_wp2_with fail
      rw [← HV.out]
      refine (CT.out _ HB.out).mono ?_
      rintro e w1 ⟨rfl, hb⟩
      have HB1 := Lib.hid (bel5 HB.out hb HB.out.size)
      clear hb HB CT x0 HV HS
      go_wp2
      go_ret3
      exact ⟨rfl, HB1.out⟩

set_option maxRecDepth 100000 in
set_option maxHeartbeats 1000000 in
theorem takeItself5_any (k g : Nat) (A : Option Addr) (b : List UInt8) (c q m : Nat) (W : World) (hq : q ≤ b.length) (hm9 : m ≤ 999) (hl : b.length ≤ 90000) (hc : b.length ≤ c) (hcm : c ≤ 9223372036854775807) (hr : Rd W W.heap.size A b) :
    Calls Tryd.prog 105 #[shV k g, .slice A b.length c, .int .i64 (q : Int), .int .i64 (m : Int)] W fun e W' => Ans3 W' e (tiF k b q m).1 (tiF k b q m).1.length (tiF k b q m).2.1 (tiF k b q m).2.2 ∧ Below W.heap.size W W' := by
  unfold tiF shV mayV
  generalize cntF k = L at *
  by_cases hk : k ≤ 2
  · rw [decide_eq_true hk, if_pos hk]
    have CT := Lib.hid (fun w (h : Below W.heap.size W w) => takeBcd_all A b c q m w (by omega) hc ((hr.below h (Nat.le_refl _)).more h.size))
    have hlen : (tbS b q m).1.length ≤ 100000 := by
      by_cases h0 : (tbS b q m).2.2 = 0
      · have := (tbS_ok b q m h0).2.2.1
        omega
      · have he : (tbS b q m).1 = [] := by
          revert h0
          unfold tbS
          split
          · intro; rfl
          · split
            · intro; rfl
            · split
              · intro h; exact absurd rfl h
              · intro; rfl
        rw [he]; simp
    obtain ⟨cc, ww, hcv⟩ := conv5 (tbS b q m).1 hlen
    clear hlen hr hk
    generalize (tbS b q m).1 = S at *
    generalize (tbS b q m).2.1 = I at *
    generalize (tbS b q m).2.2 = E at *
    generalize S.toArray = SA at *
    generalize S.length = SL at *
    generalize b.length = M at *
    obtain ⟨V, hV, hb, hs⟩ := box_shape W L true (.func (.func 108) #[] #[.pointer (some ⟨g, 0, none⟩), .pointer (some ⟨g + 1, 0, none⟩)])
    obtain ⟨-, x1, -⟩ := cellsS hs
    have HB := Lib.hid hb
    have HV := Lib.hid hV
    rw [hV] at x1
    have HCV := Lib.hid hcv
    clear hb hV hs hcv
    go_enter Tryd.func105, Tryd.ntmps105
    go_wp2_with fail
    rw [← HV.out]
    refine (CT.out _ HB.out).mono ?_
    rintro e w1 ⟨rfl, hb⟩
    have HB1 := Lib.hid (bel5 HB.out hb HB.out.size)
    obtain ⟨hrun, hrd, hbw, hcc, hcc2⟩ := HCV.out w1
    have HB2 := Lib.hid (bel5 HB1.out hbw HB1.out.size)
    have HR2 := Lib.hid hrd
    clear hb HB CT x1 HV HCV hrd hbw
    go_wp2
    go_ret3
    exact ⟨⟨_, _, rfl, hcc, hcc2, HR2.out⟩, HB2.out⟩
  · rw [decide_eq_false hk, if_neg hk]
    have RB := Lib.hid (fun w (h : Below W.heap.size W w) => (hr.below h (Nat.le_refl _)).more h.size)
    obtain ⟨V, hV, hb, hs⟩ := box_shape W L false (.func (.func 108) #[] #[.pointer (some ⟨g, 0, none⟩), .pointer (some ⟨g + 1, 0, none⟩)])
    obtain ⟨-, x1, -⟩ := cellsS hs
    have HB := Lib.hid hb
    have HV := Lib.hid hV
    rw [hV] at x1
    clear hb hV hs hr hk
    by_cases hs : b.length < q + m
    · rw [if_pos hs]
      have hsi : (b.length : Int) - (q : Int) < (m : Int) := by omega
      generalize b.length = M at *
      clear hs RB
      rw [HV.out] at HB
      go_enter Tryd.func105, Tryd.ntmps105
      go_wp2
      go_ret3
      exact ⟨Ans3.none, HB.out⟩
    · rw [if_neg hs]
      have hsi : ¬ (b.length : Int) - (q : Int) < (m : Int) := by omega
      have hlen : ((b.drop q).take m).length = m := by rw [List.length_take, List.length_drop]; omega
      have CC := Lib.hid (fun w (h : Below W.heap.size W w) => (show Calls Tryd.prog 64 #[.slice (if c = q then A else A.map (·.add (q * 1))) m (c - q)] w fun e w' => AnsB5 w' e ((b.drop q).take m) m ∧ Below w.heap.size w w' from by
        have h2 := clone5_any (if c = q then A else A.map (·.add (q * 1))) ((b.drop q).take m) (c - q) w (by omega) ((RB.out w h).cut q m c (by omega) hc)
        rw [hlen] at h2
        exact h2))
      have e1 : ((q + m : Nat) : Int) = (q : Int) + (m : Int) := by omega
      dsimp only
      rw [hlen, e1]
      have hqm : q + m ≤ b.length := by omega
      have hqM : (q : Int) + (m : Int) ≤ (b.length : Int) := by omega
      have hqc : (q : Int) + (m : Int) ≤ (c : Int) := by omega
      have e2 : ((q : Int) + (m : Int)).toNat - q = m := by omega
      clear hs hlen e1 RB
      generalize (b.drop q).take m = Q at *
      generalize b.length = M at *
      by_cases hcq : c = q
      · rw [if_pos hcq, show c - q = 0 by omega] at CC
        go_enter Tryd.func105, Tryd.ntmps105
        go_wp2_with fail
        rw [← HV.out]
        refine (CC.out _ HB.out).mono ?_
        rintro e w2 ⟨⟨A1, c1, rfl, h1, h2, h3⟩, hb⟩
        have HB2 := Lib.hid (bel5 HB.out hb HB.out.size)
        have HR := Lib.hid h3
        clear hb HB CC h3 x1
        go_wp2_with fail
        go_ret3
        exact ⟨⟨A1, c1, rfl, h1, h2, HR.out⟩, HB2.out⟩
      · rw [if_neg hcq, Nat.mul_one] at CC
        go_enter Tryd.func105, Tryd.ntmps105
        go_wp2_with fail
        rw [← HV.out]
        refine (CC.out _ HB.out).mono ?_
        rintro e w2 ⟨⟨A1, c1, rfl, h1, h2, h3⟩, hb⟩
        have HB2 := Lib.hid (bel5 HB.out hb HB.out.size)
        have HR := Lib.hid h3
        clear hb HB CC h3 x1
        go_wp2_with fail
        go_ret3
        exact ⟨⟨A1, c1, rfl, h1, h2, HR.out⟩, HB2.out⟩
end Go.Proofs.YtpfjecjfooefoaaDoor
/- field.Of. -/

namespace Go.Proofs.YtpfjecjfooefoaaDoor
open Go.RowKit

def rowAt (k : Nat) : Nat × Nat × Nat := rowsT.getD k (0, 0, 0)
set_option maxRecDepth 100000 in
theorem idx_0 (w : World) : (Instr.index 136 (.agg csT.toArray) (.int .i64 0)).run Tryd.prog w = .ok (.agg #[.int .i64 2, .int .i64 2, .int .i64 19]) w := by kernel_rfl
set_option maxRecDepth 100000 in
theorem idx_1 (w : World) : (Instr.index 136 (.agg csT.toArray) (.int .i64 1)).run Tryd.prog w = .ok (.agg #[.int .i64 3, .int .i64 1, .int .i64 6]) w := by kernel_rfl
set_option maxRecDepth 100000 in
theorem idx_2 (w : World) : (Instr.index 136 (.agg csT.toArray) (.int .i64 2)).run Tryd.prog w = .ok (.agg #[.int .i64 4, .int .i64 1, .int .i64 12]) w := by kernel_rfl
set_option maxRecDepth 100000 in
theorem idx_3 (w : World) : (Instr.index 136 (.agg csT.toArray) (.int .i64 3)).run Tryd.prog w = .ok (.agg #[.int .i64 7, .int .i64 1, .int .i64 10]) w := by kernel_rfl
set_option maxRecDepth 100000 in
theorem idx_4 (w : World) : (Instr.index 136 (.agg csT.toArray) (.int .i64 4)).run Tryd.prog w = .ok (.agg #[.int .i64 11, .int .i64 1, .int .i64 6]) w := by kernel_rfl
set_option maxRecDepth 100000 in
theorem idx_5 (w : World) : (Instr.index 136 (.agg csT.toArray) (.int .i64 5)).run Tryd.prog w = .ok (.agg #[.int .i64 12, .int .i64 1, .int .i64 6]) w := by kernel_rfl
set_option maxRecDepth 100000 in
theorem idx_6 (w : World) : (Instr.index 136 (.agg csT.toArray) (.int .i64 6)).run Tryd.prog w = .ok (.agg #[.int .i64 13, .int .i64 1, .int .i64 4]) w := by kernel_rfl
set_option maxRecDepth 100000 in
theorem idx_7 (w : World) : (Instr.index 136 (.agg csT.toArray) (.int .i64 7)).run Tryd.prog w = .ok (.agg #[.int .i64 14, .int .i64 1, .int .i64 4]) w := by kernel_rfl
set_option maxRecDepth 100000 in
theorem idx_8 (w : World) : (Instr.index 136 (.agg csT.toArray) (.int .i64 8)).run Tryd.prog w = .ok (.agg #[.int .i64 15, .int .i64 1, .int .i64 6]) w := by kernel_rfl
set_option maxRecDepth 100000 in
theorem idx_9 (w : World) : (Instr.index 136 (.agg csT.toArray) (.int .i64 9)).run Tryd.prog w = .ok (.agg #[.int .i64 18, .int .i64 1, .int .i64 4]) w := by kernel_rfl
set_option maxRecDepth 100000 in
theorem idx_10 (w : World) : (Instr.index 136 (.agg csT.toArray) (.int .i64 10)).run Tryd.prog w = .ok (.agg #[.int .i64 22, .int .i64 1, .int .i64 3]) w := by kernel_rfl
set_option maxRecDepth 100000 in
theorem idx_11 (w : World) : (Instr.index 136 (.agg csT.toArray) (.int .i64 11)).run Tryd.prog w = .ok (.agg #[.int .i64 25, .int .i64 1, .int .i64 2]) w := by kernel_rfl
set_option maxRecDepth 100000 in
theorem idx_12 (w : World) : (Instr.index 136 (.agg csT.toArray) (.int .i64 12)).run Tryd.prog w = .ok (.agg #[.int .i64 32, .int .i64 2, .int .i64 11]) w := by kernel_rfl
set_option maxRecDepth 100000 in
theorem idx_13 (w : World) : (Instr.index 136 (.agg csT.toArray) (.int .i64 13)).run Tryd.prog w = .ok (.agg #[.int .i64 35, .int .i64 4, .int .i64 37]) w := by kernel_rfl
set_option maxRecDepth 100000 in
theorem idx_14 (w : World) : (Instr.index 136 (.agg csT.toArray) (.int .i64 14)).run Tryd.prog w = .ok (.agg #[.int .i64 37, .int .i64 3, .int .i64 12]) w := by kernel_rfl
set_option maxRecDepth 100000 in
theorem idx_15 (w : World) : (Instr.index 136 (.agg csT.toArray) (.int .i64 15)).run Tryd.prog w = .ok (.agg #[.int .i64 38, .int .i64 3, .int .i64 6]) w := by kernel_rfl
set_option maxRecDepth 100000 in
theorem idx_16 (w : World) : (Instr.index 136 (.agg csT.toArray) (.int .i64 16)).run Tryd.prog w = .ok (.agg #[.int .i64 39, .int .i64 3, .int .i64 2]) w := by kernel_rfl
set_option maxRecDepth 100000 in
theorem idx_17 (w : World) : (Instr.index 136 (.agg csT.toArray) (.int .i64 17)).run Tryd.prog w = .ok (.agg #[.int .i64 41, .int .i64 3, .int .i64 8]) w := by kernel_rfl
set_option maxRecDepth 100000 in
theorem idx_18 (w : World) : (Instr.index 136 (.agg csT.toArray) (.int .i64 18)).run Tryd.prog w = .ok (.agg #[.int .i64 42, .int .i64 3, .int .i64 15]) w := by kernel_rfl
set_option maxRecDepth 100000 in
theorem idx_19 (w : World) : (Instr.index 136 (.agg csT.toArray) (.int .i64 19)).run Tryd.prog w = .ok (.agg #[.int .i64 48, .int .i64 5, .int .i64 400]) w := by kernel_rfl
set_option maxRecDepth 100000 in
theorem idx_20 (w : World) : (Instr.index 136 (.agg csT.toArray) (.int .i64 20)).run Tryd.prog w = .ok (.agg #[.int .i64 49, .int .i64 1, .int .i64 3]) w := by kernel_rfl
set_option maxRecDepth 100000 in
theorem idx_21 (w : World) : (Instr.index 136 (.agg csT.toArray) (.int .i64 21)).run Tryd.prog w = .ok (.agg #[.int .i64 52, .int .i64 6, .int .i64 8]) w := by kernel_rfl
set_option maxRecDepth 100000 in
theorem idx_22 (w : World) : (Instr.index 136 (.agg csT.toArray) (.int .i64 22)).run Tryd.prog w = .ok (.agg #[.int .i64 53, .int .i64 1, .int .i64 16]) w := by kernel_rfl
set_option maxRecDepth 100000 in
theorem idx_23 (w : World) : (Instr.index 136 (.agg csT.toArray) (.int .i64 23)).run Tryd.prog w = .ok (.agg #[.int .i64 54, .int .i64 5, .int .i64 120]) w := by kernel_rfl
set_option maxRecDepth 100000 in
theorem idx_24 (w : World) : (Instr.index 136 (.agg csT.toArray) (.int .i64 24)).run Tryd.prog w = .ok (.agg #[.int .i64 55, .int .i64 7, .int .i64 255]) w := by kernel_rfl
set_option maxRecDepth 100000 in
theorem idx_25 (w : World) : (Instr.index 136 (.agg csT.toArray) (.int .i64 25)).run Tryd.prog w = .ok (.agg #[.int .i64 64, .int .i64 6, .int .i64 8]) w := by kernel_rfl
set_option maxRecDepth 100000 in
theorem idx_26 (w : World) : (Instr.index 136 (.agg csT.toArray) (.int .i64 26)).run Tryd.prog w = .ok (.agg #[.int .i64 70, .int .i64 1, .int .i64 3]) w := by kernel_rfl
set_option maxRecDepth 100000 in
theorem idx_27 (w : World) : (Instr.index 136 (.agg csT.toArray) (.int .i64 27)).run Tryd.prog w = .ok (.agg #[.int .i64 90, .int .i64 1, .int .i64 42]) w := by kernel_rfl
set_option maxRecDepth 100000 in
theorem idx_28 (w : World) : (Instr.index 136 (.agg csT.toArray) (.int .i64 28)).run Tryd.prog w = .ok (.agg #[.int .i64 95, .int .i64 3, .int .i64 42]) w := by kernel_rfl
set_option maxRecDepth 100000 in
theorem idx_29 (w : World) : (Instr.index 136 (.agg csT.toArray) (.int .i64 29)).run Tryd.prog w = .ok (.agg #[.int .i64 96, .int .i64 6, .int .i64 8]) w := by kernel_rfl
set_option maxRecDepth 100000 in
theorem idx_30 (w : World) : (Instr.index 136 (.agg csT.toArray) (.int .i64 30)).run Tryd.prog w = .ok (.agg #[.int .i64 100, .int .i64 2, .int .i64 11]) w := by kernel_rfl
set_option maxRecDepth 100000 in
theorem idx_31 (w : World) : (Instr.index 136 (.agg csT.toArray) (.int .i64 31)).run Tryd.prog w = .ok (.agg #[.int .i64 102, .int .i64 4, .int .i64 28]) w := by kernel_rfl
set_option maxRecDepth 100000 in
theorem idx_32 (w : World) : (Instr.index 136 (.agg csT.toArray) (.int .i64 32)).run Tryd.prog w = .ok (.agg #[.int .i64 127, .int .i64 7, .int .i64 400]) w := by kernel_rfl
set_option maxRecDepth 100000 in
theorem idx_33 (w : World) : (Instr.index 136 (.agg csT.toArray) (.int .i64 33)).run Tryd.prog w = .ok (.agg #[.int .i64 128, .int .i64 6, .int .i64 8]) w := by kernel_rfl
set_option maxRecDepth 100000 in
theorem idx_row (k : Nat) (h : k < 34) (w : World) : (Instr.index 136 (.agg csT.toArray) (.int .i64 (k : Int))).run Tryd.prog w = .ok (.agg #[.int .i64 ((rowAt k).1 : Nat), .int .i64 ((rowAt k).2.1 : Nat), .int .i64 ((rowAt k).2.2 : Nat)]) w := by
  match k, h with
  | 0, _ => exact idx_0 w
  | 1, _ => exact idx_1 w
  | 2, _ => exact idx_2 w
  | 3, _ => exact idx_3 w
  | 4, _ => exact idx_4 w
  | 5, _ => exact idx_5 w
  | 6, _ => exact idx_6 w
  | 7, _ => exact idx_7 w
  | 8, _ => exact idx_8 w
  | 9, _ => exact idx_9 w
  | 10, _ => exact idx_10 w
  | 11, _ => exact idx_11 w
  | 12, _ => exact idx_12 w
  | 13, _ => exact idx_13 w
  | 14, _ => exact idx_14 w
  | 15, _ => exact idx_15 w
  | 16, _ => exact idx_16 w
  | 17, _ => exact idx_17 w
  | 18, _ => exact idx_18 w
  | 19, _ => exact idx_19 w
  | 20, _ => exact idx_20 w
  | 21, _ => exact idx_21 w
  | 22, _ => exact idx_22 w
  | 23, _ => exact idx_23 w
  | 24, _ => exact idx_24 w
  | 25, _ => exact idx_25 w
  | 26, _ => exact idx_26 w
  | 27, _ => exact idx_27 w
  | 28, _ => exact idx_28 w
  | 29, _ => exact idx_29 w
  | 30, _ => exact idx_30 w
  | 31, _ => exact idx_31 w
  | 32, _ => exact idx_32 w
  | 33, _ => exact idx_33 w
  | k + 34, h => omega
set_option maxRecDepth 100000 in
theorem row_hit (no : Int) (k : Nat) (h : k < 34) (e : (((rowAt k).1 : Nat) : Int) = no) : fk no = (rowAt k).2.1 ∧ fl no = (rowAt k).2.2 ∧ fk no ≠ 0 := by
  subst e
  match k, h with
  | 0, _ => exact ⟨by kernel_rfl, by kernel_rfl, by decide⟩
  | 1, _ => exact ⟨by kernel_rfl, by kernel_rfl, by decide⟩
  | 2, _ => exact ⟨by kernel_rfl, by kernel_rfl, by decide⟩
  | 3, _ => exact ⟨by kernel_rfl, by kernel_rfl, by decide⟩
  | 4, _ => exact ⟨by kernel_rfl, by kernel_rfl, by decide⟩
  | 5, _ => exact ⟨by kernel_rfl, by kernel_rfl, by decide⟩
  | 6, _ => exact ⟨by kernel_rfl, by kernel_rfl, by decide⟩
  | 7, _ => exact ⟨by kernel_rfl, by kernel_rfl, by decide⟩
  | 8, _ => exact ⟨by kernel_rfl, by kernel_rfl, by decide⟩
  | 9, _ => exact ⟨by kernel_rfl, by kernel_rfl, by decide⟩
  | 10, _ => exact ⟨by kernel_rfl, by kernel_rfl, by decide⟩
  | 11, _ => exact ⟨by kernel_rfl, by kernel_rfl, by decide⟩
  | 12, _ => exact ⟨by kernel_rfl, by kernel_rfl, by decide⟩
  | 13, _ => exact ⟨by kernel_rfl, by kernel_rfl, by decide⟩
  | 14, _ => exact ⟨by kernel_rfl, by kernel_rfl, by decide⟩
  | 15, _ => exact ⟨by kernel_rfl, by kernel_rfl, by decide⟩
  | 16, _ => exact ⟨by kernel_rfl, by kernel_rfl, by decide⟩
  | 17, _ => exact ⟨by kernel_rfl, by kernel_rfl, by decide⟩
  | 18, _ => exact ⟨by kernel_rfl, by kernel_rfl, by decide⟩
  | 19, _ => exact ⟨by kernel_rfl, by kernel_rfl, by decide⟩
  | 20, _ => exact ⟨by kernel_rfl, by kernel_rfl, by decide⟩
  | 21, _ => exact ⟨by kernel_rfl, by kernel_rfl, by decide⟩
  | 22, _ => exact ⟨by kernel_rfl, by kernel_rfl, by decide⟩
  | 23, _ => exact ⟨by kernel_rfl, by kernel_rfl, by decide⟩
  | 24, _ => exact ⟨by kernel_rfl, by kernel_rfl, by decide⟩
  | 25, _ => exact ⟨by kernel_rfl, by kernel_rfl, by decide⟩
  | 26, _ => exact ⟨by kernel_rfl, by kernel_rfl, by decide⟩
  | 27, _ => exact ⟨by kernel_rfl, by kernel_rfl, by decide⟩
  | 28, _ => exact ⟨by kernel_rfl, by kernel_rfl, by decide⟩
  | 29, _ => exact ⟨by kernel_rfl, by kernel_rfl, by decide⟩
  | 30, _ => exact ⟨by kernel_rfl, by kernel_rfl, by decide⟩
  | 31, _ => exact ⟨by kernel_rfl, by kernel_rfl, by decide⟩
  | 32, _ => exact ⟨by kernel_rfl, by kernel_rfl, by decide⟩
  | 33, _ => exact ⟨by kernel_rfl, by kernel_rfl, by decide⟩
  | k + 34, h => omega
set_option maxRecDepth 100000 in
theorem row_miss (no : Int) (h : ∀ k, k < 34 → (((rowAt k).1 : Nat) : Int) ≠ no) : fk no = 0 ∧ fl no = 0 := by
  unfold fk fl
  rcases findF_in no rowsF with h1 | ⟨x, hx, -, h3⟩
  · rw [h1]; exact ⟨rfl, rfl⟩
  · exfalso
    have hall : rowsF.all (fun x => x.2.2.all fun z => (List.range 34).any fun k => decide ((((rowAt k).1 : Nat) : Int) = z)) = true := by decide
    have h4 := List.all_eq_true.1 (List.all_eq_true.1 hall x hx) no h3
    obtain ⟨k, hk, h5⟩ := List.any_eq_true.1 h4
    exact h k (List.mem_range.1 hk) (of_decide_eq_true h5)
set_option maxRecDepth 100000 in
theorem cells3 {w : World} {g : Nat} {x y z : Value} {t : TypeId} {fr : Nat × Nat} (h : w.heap[g]? = some (.cells #[x, y, z] t fr)) : w.cell? ⟨g, 0, none⟩ = some x ∧ w.cell? ⟨g, 1, none⟩ = some y ∧ w.cell? ⟨g, 2, none⟩ = some z :=
  have hcl : ∀ j v, (#[x, y, z] : Array Value)[j]? = some v → w.cell? ⟨g, j, none⟩ = some v := fun _j _v h' => (cell_of_row _ _ _ _ _ _ h).trans h'
  ⟨hcl 0 _ rfl, hcl 1 _ rfl, hcl 2 _ rfl⟩
set_option maxRecDepth 100000 in
theorem loadT {ops : Array Oper} {rest : List Oper} {o : Oper} {a : Act} {Q : Exit → Act → World → Prop} (W : World) (x : Operand) (X : Array Value) (hs : X.size = 102) (t : TypeId) (fr : Nat × Nat)
    (hg : W.heap[0]? = some (.cells X t fr)) (hgd : o.guard = none) (ho : o.op = .load 136 x) (hx : a.eval x = .pointer (some ⟨0, 0, none⟩))
    (h : wpList Tryd.prog ops Q rest (a.put o.dst (.agg X)) W) : wpList Tryd.prog ops Q (o :: rest) a W :=
  wpList_load_row hgd 136 x ho 0 hx t X fr _ hg Tryd.underlying136 rfl (by rw [hs]; kernel_rfl) h

set_option maxRecDepth 100000 in
set_option maxHeartbeats 4000000 in
theorem fOf_any (no : Int) (W : World) (hT : Tb W) :
    Calls Tryd.prog 62 #[.int .i64 no] W fun e W' => e = .returned (.tuple #[.agg #[.int .i64 (fk no : Int), .int .i64 (fl no : Int)], .bool (decide (fk no ≠ 0))]) ∧ Below W.heap.size W W' := by
  have HHIT := Lib.hid (fun (k : Nat) (h : k < 34) (e : (((rowAt k).1 : Nat) : Int) = no) => row_hit no k h e)
  have HMISS := Lib.hid (fun (h : ∀ k, k < 34 → (((rowAt k).1 : Nat) : Int) ≠ no) => row_miss no h)
  obtain ⟨FK, hFK⟩ : ∃ x, x = fk no := ⟨_, rfl⟩
  obtain ⟨FL, hFL⟩ : ∃ x, x = fl no := ⟨_, rfl⟩
  rw [← hFK, ← hFL] at HHIT HMISS ⊢
  clear hFK hFL
  have hp := hT.pos
  obtain ⟨tt, ff, hT⟩ := hT
  have HI := Lib.hid (fun (k : Nat) (h : k < 34) (w : World) => idx_row k h w)
  have HS := Lib.hid (show csT.toArray.size = 102 by decide)
  obtain ⟨X, hX⟩ : ∃ X, X = csT.toArray := ⟨_, rfl⟩
  rw [← hX] at hT HI HS
  clear hX
  obtain ⟨V, hV⟩ : ∃ V, V = W.alloc (.cells #[.int .i64 0, .int .i64 0] 95) := ⟨_, rfl⟩
  have HV := Lib.hid hV
  have HB := Lib.hid (show Below W.heap.size W V by rw [hV]; exact (Below.refl _ _).alloc (Nat.le_refl _) _)
  have HF := Lib.hid (show V.heap[W.heap.size]? = some (.cells #[.int .i64 0, .int .i64 0] 95 (0, 0)) by rw [hV]; exact heap_alloc_new W _)
  have HT := Lib.hid (show V.heap[0]? = some (.cells X tt ff) by exact (HB.out.block 0 hp).trans hT)
  clear hV hT hp
  go_enter Tryd.func62, Tryd.ntmps62
  go_wp2_with (with_reducible refine at_list5 ?_; refine loadT _ (.global 0) X HS.out tt ff (by rw [← HV.out]; exact HT.out) rfl rfl rfl ?_; rw [← HV.out])
  clear HV HT HS
  obtain ⟨g, hg⟩ : ∃ g, g = W.heap.size := ⟨_, rfl⟩
  rw [← hg] at HF HB ⊢
  have HG := Lib.hid hg
  clear hg
  go_loopw [7] (fun t wr => ∃ k : Nat, k ≤ 34 ∧ t = .int .i64 k ∧ Hid (Below g W wr) ∧ Hid (wr.heap[g]? = some (.cells #[.int .i64 0, .int .i64 0] 95 (0, 0))) ∧ Hid (∀ j, j < k → (((rowAt j).1 : Nat) : Int) ≠ no)) (fun t _ => 34 - (intOf t).toNat)
  case atStart => exact ⟨0, Nat.zero_le _, rfl, HB, HF, Lib.hid (fun j hj => absurd hj (by omega))⟩
  case round =>
    obtain ⟨k, hk, rfl, hB, hF, hall⟩ := hrel
    clear HB HF
    by_cases hlt : k < 34
    · have hi := HI.out k hlt
      have HH := Lib.hid (HHIT.out k hlt)
      obtain ⟨a, ha⟩ : ∃ a, a = (((rowAt k).1 : Nat) : Int) := ⟨_, rfl⟩
      obtain ⟨b, hb⟩ : ∃ b, b = (rowAt k).2.1 := ⟨_, rfl⟩
      obtain ⟨c, hc⟩ : ∃ c, c = (rowAt k).2.2 := ⟨_, rfl⟩
      rw [← ha, ← hb, ← hc] at hi
      rw [← ha, ← hb, ← hc] at HH
      have HA := Lib.hid ha
      have hki : (k : Int) < 34 := by omega
      have hgs : g < wr.heap.size := (Array.getElem?_eq_some_iff.1 hF.out).1
      have hb2 := hB.out.alloc (by omega) (.cells #[.int .i64 a, .int .i64 (b : Int), .int .i64 (c : Int)] 135)
      have hf2 := (heap_alloc_old wr (.cells #[.int .i64 a, .int .i64 (b : Int), .int .i64 (c : Int)] 135) hgs).trans hF.out
      have HB2 := Lib.hid hb2
      have HF2 := Lib.hid hf2
      obtain ⟨x0, x1, x2⟩ := cells3 (heap_alloc_new wr (.cells #[.int .i64 a, .int .i64 (b : Int), .int .i64 (c : Int)] 135))
      clear ha hb hc hb2 hf2 hB hF hgs HHIT
      by_cases h : a = no
      · have he : (a == no) = true := by simpa using h
        obtain ⟨f0, f1⟩ := cells2 HF2.out
        obtain ⟨z0, z1⟩ := frozen2 HF2.out
        have HE := Lib.hid (HH.out h)
        clear h HH hall HMISS
        go_wp2
        (try simp only [Exit.inBlock, Exit.then])
        refine bodyPost_ret (ret2f rfl _ (set2 _ g (.int .i64 (b : Int)) (.int .i64 (c : Int))) g _ _ _ rfl rfl (set2_same _ _ HF2.out)) rfl ?_
        obtain ⟨h1, h2, h3⟩ := HE.out
        exact ⟨by rw [h1, h2, decide_eq_true (show b ≠ 0 by rw [← h1]; exact h3)]; rfl, by rw [← HG.out]; exact Below.set2 HB2.out (Nat.le_refl _) _ _⟩
      · have he : (a == no) = false := by simpa using h
        have HX := Lib.hid (show ∀ j, j < k + 1 → (((rowAt j).1 : Nat) : Int) ≠ no from fun j hj => by
          by_cases e : j = k
          · rw [e, ← HA.out]; exact h
          · exact hall.out j (by omega))
        clear h HH hall HMISS HA
        go_wp2
        go_roundw
        case rel => exact ⟨k + 1, by omega, by go_num, HB2, HF2, HX⟩
        case measure => simp [intOf]; omega
    · have hki : ¬ (k : Int) < 34 := by omega
      have HM := Lib.hid (HMISS.out (fun j hj => hall.out j (by omega)))
      obtain ⟨f0, f1⟩ := cells2 hF.out
      obtain ⟨z0, z1⟩ := frozen2 hF.out
      clear HHIT HMISS hall
      go_wp2
      (try simp only [Exit.inBlock, Exit.then])
      refine bodyPost_ret (ret2f rfl _ (set2 wr g (.int .i64 0) (.int .i64 0)) g _ _ _ rfl rfl (set2_same _ _ hF.out)) rfl ?_
      exact ⟨by rw [HM.out.1, HM.out.2]; rfl, by rw [← HG.out]; exact Below.set2 hB.out (Nat.le_refl _) _ _⟩
end Go.Proofs.YtpfjecjfooefoaaDoor
