
/- BitmapBits' walk. -/
import Derived.Test.YtgojmhfiikjpnaaBmS
namespace Go.Proofs.Ytgojmhfiikjpnaa
open Go.RowKit

theorem tb7 : ∀ y : Fin 256, decide (128 ≤ y.val) = y.val.testBit 7 := by decide +kernel
theorem first_bit {l : List Int} (h : RightP l) (hj : 0 < (writeB l).length) : decide (128 ≤ (writeB l)[0].toNat) = wideF l := by
  have h1 := tb7 ⟨(writeB l)[0].toNat, (writeB l)[0].toNat_lt⟩
  have h2 := writeB_has l [] 1 (by omega) (by have := sizeB_or (wideF l); omega)
  rw [List.append_nil, setF_1 h] at h2
  unfold hasF at h2
  rw [List.getD_eq_getElem?_getD, List.getElem?_eq_getElem (by exact hj), Option.getD_some] at h2
  exact h1.trans h2
set_option maxRecDepth 100000 in
set_option maxHeartbeats 4000000 in
theorem bitmapBits_walk (A : Option Addr) (l : List Int) (c : Nat) (t : Int) (W : World) (hc : l.length ≤ c) (hcm : c ≤ 9223372036854775807) (hz : I64s l) (hr : RdI W W.heap.size A l) (ht : 0 ≤ t ∧ t ≤ 255) :
    Calls Try.prog 6 #[.slice A l.length c, .int .u8 t] W fun e W' => e = .returned (.bool true) ∧ Below W.heap.size W W' := by
  by_cases h150 : 150 < l.length
  · have i0 : (150 : Int) < (l.length : Int) := by omega
    generalize l.length = m at *
    have HB := Lib.hid (Below.refl W.heap.size W)
    go_enter Try.func6, Try.ntmps6
    go_wp2_with fail
    refine (shown6_any _).mono ?_
    rintro e w1 ⟨rfl, hb⟩
    have nHB := Lib.hid (belG HB.out hb HB.out.size)
    clear hb
    clear HB 
    have HB := nHB
    clear nHB 
    go_wp2_with fail
    go_ret
    exact ⟨rfl, HB.out⟩
  have i0 : ¬ (150 : Int) < (l.length : Int) := by omega
  have CW1 := Lib.hid (fun w (h : RdI w w.heap.size A l) => bWrite_any A l c w (by omega) hz h)
  have R0 := Lib.hid hr
  by_cases hR : ¬ RightP l
  · rw [show bmW l = [] by unfold bmW; rw [if_neg hR], show bmE l = 1 by unfold bmE; rw [if_neg hR]] at CW1
    clear h150 hR hr hc hcm hz
    generalize l.length = m at *
    have HB := Lib.hid (Below.refl W.heap.size W)
    go_enter Try.func6, Try.ntmps6
    go_wp2_with fail
    refine (shown6_any _).mono ?_
    rintro e w1 ⟨rfl, hb⟩
    have nHB := Lib.hid (belG HB.out hb HB.out.size)
    have nR0 := Lib.hid ((R0.out.below hb (Nat.le_refl _)).more hb.size)
    clear hb
    clear HB R0
    have HB := nHB
    have R0 := nR0
    clear nHB nR0
    go_wp2_with fail
    refine (CW1.out _ R0.out).mono ?_
    rintro e w2 ⟨⟨A1, c1, rfl, -, -, -⟩, hb⟩
    have nHB := Lib.hid (belG HB.out hb HB.out.size)
    have nR0 := Lib.hid ((R0.out.below hb (Nat.le_refl _)).more hb.size)
    clear hb
    clear HB R0
    have HB := nHB
    have R0 := nR0
    clear nHB nR0
    go_wp2_with fail
    go_ret
    exact ⟨rfl, HB.out⟩
  have hR : RightP l := Classical.byContradiction hR
  rw [show bmW l = writeB l by unfold bmW; rw [if_pos hR], show bmE l = 0 by unfold bmE; rw [if_pos hR]] at CW1
  obtain ⟨tn, rfl⟩ := Int.eq_ofNat_of_zero_le ht.1
  obtain ⟨q, hq⟩ : ∃ q, q = tn % 127 := ⟨_, rfl⟩
  have hq7 : q < 127 := by omega
  have i4 : (tn : Int).tmod 127 = (q : Int) := by rw [Int.tmod_eq_emod_of_nonneg (by omega), hq]; push_cast; rfl
  have i5 : (tn : Int) % 127 = (q : Int) := by rw [hq]; push_cast; rfl
  obtain ⟨k, hk⟩ : ∃ k, k = 2 + q := ⟨_, rfl⟩
  have hk2 : 2 ≤ k := by omega
  have hk8 : k ≤ 128 := by omega
  have i6 : (2 : Int) + (q : Int) = (k : Int) := by omega
  have CP := Lib.hid (fun w => refPlace_any (k : Int) (by omega) w)
  rw [(plI_nat k (by omega) hk8).1, (plI_nat k (by omega) hk8).2] at CP
  have hsz := sizeB_or (wideF l)
  have HN1 := Lib.hid (writeB_length l)
  have HFB := Lib.hid (fun (hj : 0 < (writeB l).length) => first_bit hR hj)
  have HBIT := Lib.hid (fun (hj : (k - 1) / 8 < (writeB l).length) => (show ∃ X : Nat, bits .and .u8 ((writeB l)[(k - 1) / 8].toNat : Int) ((2 ^ (7 - (k - 1) % 8) : Nat) : Int) = (X : Int) ∧ ((X : Int) != 0) = decide ((k : Int) ∈ l) ∧ X < 256 from by
    obtain ⟨X, h1, h2, h3⟩ := and_bit (writeB l)[(k - 1) / 8].toNat (7 - (k - 1) % 8) (UInt8.toNat_lt _) (by omega)
    refine ⟨X, h1, ?_, h3⟩
    rw [h2]
    have h4 := writeB_has l [] k (by omega) (by rw [← writeB_length]; omega)
    rw [List.append_nil, setF_2 hk2] at h4
    unfold hasF at h4
    rw [List.getD_eq_getElem?_getD, List.getElem?_eq_getElem (by exact hj), Option.getD_some] at h4
    exact h4))
  have HOUT := Lib.hid (fun (hj : ¬ (k - 1) / 8 < (writeB l).length) => (show decide ((k : Int) ∈ l) = false from by
    refine decide_eq_false (fun hm => ?_)
    rw [writeB_length] at hj
    cases hw : wideF l with
    | true => rw [hw] at hj; have hj : ¬ (k - 1) / 8 < 16 := hj; omega
    | false => rw [hw] at hj; have hj : ¬ (k - 1) / 8 < 8 := hj; have := wide_no hw hm; omega))
  have HIN := Lib.hid (show ∃ I, I = decide ((k : Int) ∈ l) from ⟨_, rfl⟩)
  obtain ⟨I, hI⟩ := HIN.out
  obtain ⟨Wd, hWd⟩ : ∃ x, x = wideF l := ⟨_, rfl⟩
  have HI := Lib.hid hI
  have HWd := Lib.hid hWd
  rw [← hI] at HBIT HOUT
  rw [← hWd] at HN1 HFB hsz
  have HTK := Lib.hid (fun j (hj : j < l.length) => List.take_succ_eq_append_getElem hj)
  obtain ⟨p, hp⟩ : ∃ p, p = (k - 1) / 8 := ⟨_, rfl⟩
  have hp16 : p < 16 := by omega
  obtain ⟨pw, hpw⟩ : ∃ pw : Nat, pw = 2 ^ (7 - (k - 1) % 8) := ⟨_, rfl⟩
  rw [← hp, ← hpw] at CP
  rw [← hpw] at HBIT
  have HP := Lib.hid hp
  have HM0 := Lib.hid (show l.length ≤ 150 by omega)
  have ht2 := ht.2
  clear h150 hc hcm hz hr ht hI hWd HIN hp hpw hq hk hR
  generalize hWL : writeB l = L at *
  clear hWL
  obtain ⟨m, hm⟩ : ∃ m, m = l.length := ⟨_, rfl⟩
  have HM := Lib.hid hm
  obtain ⟨N, hN⟩ : ∃ N, N = L.length := ⟨_, rfl⟩
  have HN := Lib.hid hN
  rw [← hm] at CW1 i0 HM0 ⊢
  rw [← hN] at CW1 HN1
  clear hm hN
  have HB := Lib.hid (Below.refl W.heap.size W)
  go_enter Try.func6, Try.ntmps6
  go_wp2_with fail
  refine (shown6_any _).mono ?_
  rintro e w1 ⟨rfl, hb⟩
  have nHB := Lib.hid (belG HB.out hb HB.out.size)
  have nR0 := Lib.hid ((R0.out.below hb (Nat.le_refl _)).more hb.size)
  clear hb
  clear HB R0
  have HB := nHB
  have R0 := nR0
  clear nHB nR0
  go_wp2_with fail
  refine (CW1.out _ R0.out).mono ?_
  rintro e w2 ⟨⟨A1, c1, rfl, -, -, h1⟩, hb⟩
  have nHB := Lib.hid (belG HB.out hb HB.out.size)
  have nR0 := Lib.hid ((R0.out.below hb (Nat.le_refl _)).more hb.size)
  clear hb
  clear HB R0
  have HB := nHB
  have R0 := nR0
  clear nHB nR0
  have R1 := Lib.hid h1
  clear h1
  go_wp2_with fail
  refine (CP.out _).mono ?_
  rintro e w3 ⟨rfl, rfl⟩
  clear CP CW1
  go_wp2_with fail
  go_loop [13, 11, 12] (fun i b v => ∃ j : Nat, j ≤ m ∧ i = .int .i64 j ∧ ∃ b1 b2 : Bool, b = .bool b1 ∧ v = .bool b2 ∧ Hid (b1 = decide ((k : Int) ∈ l.take j)) ∧ Hid (b2 = (l.take j).any fun x => decide (64 < x))) (fun i _ _ => m - (intOf i).toNat)
  case atStart => exact ⟨0, Nat.zero_le _, rfl, false, false, rfl, rfl, Lib.hid (by simp), Lib.hid (by simp)⟩
  case round =>
    obtain ⟨j, hj, rfl, b1, b2, rfl, rfl, H1, H2⟩ := hrel
    by_cases hlt : j < m
    · have hjl : j < l.length := by rw [← HM.out]; exact hlt
      obtain ⟨ab, ao, ea, hab, hac⟩ := R0.out.at_ hjl
      cases ea
      obtain ⟨x, hx⟩ : ∃ x, x = l[j] := ⟨_, rfl⟩
      rw [← hx] at hac
      have h3 := HTK.out j hjl
      rw [← hx] at h3
      have H3 := Lib.hid (show decide ((k : Int) ∈ l.take (j + 1)) = (b1 || (x == (k : Int))) by
        rw [h3, H1.out, Bool.eq_iff_iff, decide_eq_true_iff, List.mem_append, List.mem_singleton, Bool.or_eq_true, decide_eq_true_iff, beq_iff_eq]
        exact ⟨fun h => h.imp id Eq.symm, fun h => h.imp id Eq.symm⟩)
      have H4 := Lib.hid (show ((l.take (j + 1)).any fun x => decide (64 < x)) = (b2 || decide (64 < x)) by
        rw [h3, H2.out, List.any_append]
        simp)
      have hji : (j : Int) < (m : Int) := by omega
      have hj0 : (0 : Int) ≤ (j : Int) := Int.natCast_nonneg _
      clear h3 hx hjl H1 H2
      obtain ⟨y1, hy1⟩ : ∃ y, y = (x == (k : Int)) := ⟨_, rfl⟩
      obtain ⟨y2, hy2⟩ : ∃ y, y = decide (64 < x) := ⟨_, rfl⟩
      rw [← hy1] at H3
      rw [← hy2] at H4
      have g1 := hy1.symm
      have g2 := hy2.symm
      clear hy1 hy2
      cases b1 <;> cases b2 <;> cases y1 <;> cases y2
      all_goals
        first
        | (have g3 : x = (k : Int) := beq_iff_eq.1 g1; rw [g3] at g2)
        | (have g3 : ¬ x = (k : Int) := beq_eq_false_iff_ne.1 g1)
      all_goals
        go_wp2
        go_round
        case rel => exact ⟨j + 1, by omega, by go_num, _, _, rfl, rfl, Lib.hid (by rw [H3.out]; rfl), Lib.hid (by rw [H4.out]; rfl)⟩
        case measure => simp [intOf]; omega
    · have hji : ¬ (j : Int) < (m : Int) := by omega
      have e1 : l.take j = l := List.take_of_length_le (by rw [← HM.out]; omega)
      have eb1 : b1 = I := by rw [H1.out, HI.out, e1]
      have eb2 : b2 = Wd := by rw [H2.out, HWd.out, e1]; rfl
      subst eb1 eb2
      clear H1 H2 e1 HI HWd
      cases b2 with
      | true =>
        have hN8 : N = 16 := HN1.out
        clear HN1 hsz
        by_cases hpn : p < 16
        · obtain ⟨fb, fo, ef, hfb, hfc⟩ := R1.out.at_ (k := 0) (by rw [← HN.out, hN8]; decide)
          cases ef
          rw [Nat.add_zero] at hfc
          have hfy := HFB.out (by rw [← HN.out, hN8]; decide)
          obtain ⟨y, hy⟩ : ∃ y : Nat, y = (L[0]'(by rw [← HN.out, hN8]; decide)).toNat := ⟨_, rfl⟩
          rw [← hy] at hfy hfc
          have hfy2 := hfy
          have y1 : 128 ≤ y := of_decide_eq_true hfy
          have y2 : (128 : Int) ≤ (y : Int) := by omega
          have y3 : decide ((128 : Int) ≤ (y : Int)) = true := decide_eq_true y2
          have hpl : (k - 1) / 8 < L.length := by rw [← HP.out, ← HN.out, hN8]; exact hpn
          obtain ⟨X, e1, e2, e3⟩ := HBIT.out hpl
          have hpc := (R1.out (by omega))
          obtain ⟨fb2, fo2, ef2, hfb2, hfc2⟩ := hpc
          cases ef2
          have hfc3 := hfc2 ((k - 1) / 8) hpl
          obtain ⟨z, hz⟩ : ∃ z : Nat, z = (L[(k - 1) / 8]'hpl).toNat := ⟨_, rfl⟩
          rw [← hz] at e1 hfc3
          rw [← HP.out] at hfc3
          have hpi : (p : Int) < (N : Int) := by omega
          have hp0 : (0 : Int) ≤ (p : Int) := Int.natCast_nonneg _
          have hpd : decide ((p : Int) < (N : Int)) = true := decide_eq_true hpi
          have hpd2 : decide (p < N) = true := decide_eq_true (by omega)
          clear hpl hz hfc2 HBIT HOUT
          clear hy hfy hfy2 HFB HP
          have n8 : ((N : Int) != 8) = true := by rw [hN8]; rfl
          have n16 : ((N : Int) == 16) = true := by rw [hN8]; rfl
          have n0 : (0 : Int) < (N : Int) := by omega
          clear hN8
          go_wp2
          go_ret
          exact ⟨by first | rfl | simp [*], HB.out⟩
        · exact absurd hp16 hpn
      | false =>
        have hN8 : N = 8 := HN1.out
        clear HN1 hsz
        by_cases hpn : p < 8
        · obtain ⟨fb, fo, ef, hfb, hfc⟩ := R1.out.at_ (k := 0) (by rw [← HN.out, hN8]; decide)
          cases ef
          rw [Nat.add_zero] at hfc
          have hfy := HFB.out (by rw [← HN.out, hN8]; decide)
          obtain ⟨y, hy⟩ : ∃ y : Nat, y = (L[0]'(by rw [← HN.out, hN8]; decide)).toNat := ⟨_, rfl⟩
          rw [← hy] at hfy hfc
          have hfy2 := hfy
          have y1 : ¬ 128 ≤ y := of_decide_eq_false hfy
          have y2 : ¬ (128 : Int) ≤ (y : Int) := by omega
          have y3 : decide ((128 : Int) ≤ (y : Int)) = false := decide_eq_false y2
          have hpl : (k - 1) / 8 < L.length := by rw [← HP.out, ← HN.out, hN8]; exact hpn
          obtain ⟨X, e1, e2, e3⟩ := HBIT.out hpl
          have hpc := (R1.out (by omega))
          obtain ⟨fb2, fo2, ef2, hfb2, hfc2⟩ := hpc
          cases ef2
          have hfc3 := hfc2 ((k - 1) / 8) hpl
          obtain ⟨z, hz⟩ : ∃ z : Nat, z = (L[(k - 1) / 8]'hpl).toNat := ⟨_, rfl⟩
          rw [← hz] at e1 hfc3
          rw [← HP.out] at hfc3
          have hpi : (p : Int) < (N : Int) := by omega
          have hp0 : (0 : Int) ≤ (p : Int) := Int.natCast_nonneg _
          have hpd : decide ((p : Int) < (N : Int)) = true := decide_eq_true hpi
          have hpd2 : decide (p < N) = true := decide_eq_true (by omega)
          clear hpl hz hfc2 HBIT HOUT
          clear hy hfy hfy2 HFB HP
          have n8 : ((N : Int) != 8) = false := by rw [hN8]; rfl
          have n16 : ((N : Int) == 16) = false := by rw [hN8]; rfl
          have n0 : (0 : Int) < (N : Int) := by omega
          clear hN8
          go_wp2
          go_ret
          exact ⟨by first | rfl | simp [*], HB.out⟩
        · obtain ⟨fb, fo, ef, hfb, hfc⟩ := R1.out.at_ (k := 0) (by rw [← HN.out, hN8]; decide)
          cases ef
          rw [Nat.add_zero] at hfc
          have hfy := HFB.out (by rw [← HN.out, hN8]; decide)
          obtain ⟨y, hy⟩ : ∃ y : Nat, y = (L[0]'(by rw [← HN.out, hN8]; decide)).toNat := ⟨_, rfl⟩
          rw [← hy] at hfy hfc
          have hfy2 := hfy
          have y1 : ¬ 128 ≤ y := of_decide_eq_false hfy
          have y2 : ¬ (128 : Int) ≤ (y : Int) := by omega
          have y3 : decide ((128 : Int) ≤ (y : Int)) = false := decide_eq_false y2
          have hI0 := HOUT.out (by rw [← HP.out, ← HN.out, hN8]; exact hpn)
          have hpi : ¬ (p : Int) < (N : Int) := by omega
          have hpd : decide ((p : Int) < (N : Int)) = false := decide_eq_false hpi
          have hpd2 : decide (p < N) = false := decide_eq_false (by omega)
          clear HBIT HOUT
          subst hI0
          clear hy hfy hfy2 HFB HP
          have n8 : ((N : Int) != 8) = false := by rw [hN8]; rfl
          have n16 : ((N : Int) == 16) = false := by rw [hN8]; rfl
          have n0 : (0 : Int) < (N : Int) := by omega
          clear hN8
          go_wp2
          go_ret
          exact ⟨by first | rfl | simp [*], HB.out⟩
end Go.Proofs.Ytgojmhfiikjpnaa
