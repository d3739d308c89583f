
/- IsoTypes' walk. -/
import Derived.Test.YtpfjecjfooefoaaDoorJ40
namespace Go.Proofs.YtpfjecjfooefoaaDoor
open Go.RowKit

set_option maxRecDepth 100000 in
set_option maxHeartbeats 4000000 in
theorem isoTypes_walk (n : Int) (W : World) (hn : 0 ≤ n ∧ n ≤ 65535) (hT : Tb W) :
    Calls Tryd.prog 10 #[.int .u16 n] W fun e W' => e = .returned (.bool true) ∧ Below W.heap.size W W' := by
  have HT := Lib.hid hT
  obtain ⟨tn, rfl⟩ := Int.eq_ofNat_of_zero_le hn.1
  have hn2 := hn.2
  obtain ⟨M, hM⟩ : ∃ M, M = tn % 1100 := ⟨_, rfl⟩
  obtain ⟨c, hc⟩ : ∃ c, c = M / 100 := ⟨_, rfl⟩
  obtain ⟨E, hE⟩ : ∃ E, E = M / 10 := ⟨_, rfl⟩
  obtain ⟨o, ho⟩ : ∃ o, o = M % 10 := ⟨_, rfl⟩
  have a2 : (tn : Int) % 1100 = (M : Int) := by omega
  have a1 : (tn : Int).tmod 1100 = (M : Int) := by rw [Int.tmod_eq_emod_of_nonneg (by omega)]; exact a2
  have b2 : (M : Int) / 100 = (c : Int) := by omega
  have b1 : (M : Int).tdiv 100 = (c : Int) := by rw [Int.tdiv_eq_ediv_of_nonneg (by omega)]; exact b2
  have c2 : (M : Int) / 10 = (E : Int) := by omega
  have c1 : (M : Int).tdiv 10 = (E : Int) := by rw [Int.tdiv_eq_ediv_of_nonneg (by omega)]; exact c2
  have o2 : (M : Int) % 10 = (o : Int) := by omega
  have o1 : (M : Int).tmod 10 = (o : Int) := by rw [Int.tmod_eq_emod_of_nonneg (by omega)]; exact o2
  have hMb : M < 1100 := by omega
  have hcE : c = E / 10 := by rw [hc, hE, Nat.div_div_eq_div_mul]
  have CP := Lib.hid (fun w (hB : Below W.heap.size W w) => iReply_any (M : Int) (by unfold I64b; omega) w (hT.below hB))
  have CT := Lib.hid (fun w (hB : Below W.heap.size W w) => iType_any (M : Int) (by unfold I64b; omega) w (hT.below hB))
  have CK := Lib.hid (fun w (hB : Below W.heap.size W w) => iClass_any (M : Int) (by unfold I64b; omega) w (hT.below hB))
  obtain ⟨D, hD⟩ : ∃ D, D = E % 10 := ⟨_, rfl⟩
  obtain ⟨Q, hQ⟩ : ∃ D, D = E % 2 := ⟨_, rfl⟩
  have d2 : (E : Int) % 10 = (D : Int) := by omega
  have d1 : (E : Int).tmod 10 = (D : Int) := by rw [Int.tmod_eq_emod_of_nonneg (by omega)]; exact d2
  have e2 : (E : Int) % 2 = (Q : Int) := by omega
  have e1 : (E : Int).tmod 2 = (Q : Int) := by rw [Int.tmod_eq_emod_of_nonneg (by omega)]; exact e2
  by_cases k1 : M < 1000
  case neg =>
    have hTY : typeF (M : Int) = false := by unfold typeF; simp only [Bool.and_eq_false_iff, decide_eq_false_iff_not]; omega
    rw [show replyI (M : Int) = 0 by unfold replyI; rw [if_neg (by rw [hTY]; simp)], show replyY (M : Int) = false by unfold replyY; rw [hTY, Bool.false_and]] at CP
    rw [hTY] at CT
    rw [show classF (M : Int) = 0 by unfold classF; rw [if_neg (by rw [hTY]; simp)]] at CK
    have f1 : ¬ (M : Int) < 1000 := by omega
    have g1 : decide ((M : Int) < 1000) = false := decide_eq_false f1
    clear hTY hM hc hE ho hMb hn hD hQ hcE
    have HB := Lib.hid (Below.refl W.heap.size W)
    go_enter Tryd.func10, Tryd.ntmps10
    go_wp2_with fail
    refine (shown7_any _ (HT.out.below HB.out)).mono ?_
    rintro e w1 ⟨rfl, hb⟩
    have nHB := Lib.hid (belG HB.out hb HB.out.size)
    clear hb
    clear HB 
    have HB := nHB
    clear nHB 
    go_wp2_with fail
    refine (CP.out _ HB.out).mono ?_
    rintro e w2 ⟨rfl, hb⟩
    have nHB := Lib.hid (belG HB.out hb HB.out.size)
    clear hb
    clear HB 
    have HB := nHB
    clear nHB 
    go_wp2_with fail
    refine (CT.out _ HB.out).mono ?_
    rintro e w3 ⟨rfl, hb⟩
    have nHB := Lib.hid (belG HB.out hb HB.out.size)
    clear hb
    clear HB 
    have HB := nHB
    clear nHB 
    go_wp2_with fail
    refine (CK.out _ HB.out).mono ?_
    rintro e w4 ⟨rfl, hb⟩
    have nHB := Lib.hid (belG HB.out hb HB.out.size)
    clear hb
    clear HB 
    have HB := nHB
    clear nHB 
    go_wp2_with fail
    go_ret
    exact ⟨by first | rfl | simp, HB.out⟩
  by_cases k2 : 1 ≤ c
  case neg =>
    have hTY : typeF (M : Int) = false := by unfold typeF; simp only [Bool.and_eq_false_iff, decide_eq_false_iff_not]; omega
    rw [show replyI (M : Int) = 0 by unfold replyI; rw [if_neg (by rw [hTY]; simp)], show replyY (M : Int) = false by unfold replyY; rw [hTY, Bool.false_and]] at CP
    rw [hTY] at CT
    rw [show classF (M : Int) = 0 by unfold classF; rw [if_neg (by rw [hTY]; simp)]] at CK
    have f1 : (M : Int) < 1000 := by omega
    have g1 : decide ((M : Int) < 1000) = true := decide_eq_true f1
    have f2 : ¬ (1 : Int) ≤ (c : Int) := by omega
    have g2 : decide ((1 : Int) ≤ (c : Int)) = false := decide_eq_false f2
    clear hTY hM hc hE ho hMb hn hD hQ hcE
    have HB := Lib.hid (Below.refl W.heap.size W)
    go_enter Tryd.func10, Tryd.ntmps10
    go_wp2_with fail
    refine (shown7_any _ (HT.out.below HB.out)).mono ?_
    rintro e w1 ⟨rfl, hb⟩
    have nHB := Lib.hid (belG HB.out hb HB.out.size)
    clear hb
    clear HB 
    have HB := nHB
    clear nHB 
    go_wp2_with fail
    refine (CP.out _ HB.out).mono ?_
    rintro e w2 ⟨rfl, hb⟩
    have nHB := Lib.hid (belG HB.out hb HB.out.size)
    clear hb
    clear HB 
    have HB := nHB
    clear nHB 
    go_wp2_with fail
    refine (CT.out _ HB.out).mono ?_
    rintro e w3 ⟨rfl, hb⟩
    have nHB := Lib.hid (belG HB.out hb HB.out.size)
    clear hb
    clear HB 
    have HB := nHB
    clear nHB 
    go_wp2_with fail
    refine (CK.out _ HB.out).mono ?_
    rintro e w4 ⟨rfl, hb⟩
    have nHB := Lib.hid (belG HB.out hb HB.out.size)
    clear hb
    clear HB 
    have HB := nHB
    clear nHB 
    go_wp2_with fail
    go_ret
    exact ⟨by first | rfl | simp, HB.out⟩
  by_cases k3 : c ≤ 8
  case neg =>
    have hTY : typeF (M : Int) = false := by unfold typeF; simp only [Bool.and_eq_false_iff, decide_eq_false_iff_not]; omega
    rw [show replyI (M : Int) = 0 by unfold replyI; rw [if_neg (by rw [hTY]; simp)], show replyY (M : Int) = false by unfold replyY; rw [hTY, Bool.false_and]] at CP
    rw [hTY] at CT
    rw [show classF (M : Int) = 0 by unfold classF; rw [if_neg (by rw [hTY]; simp)]] at CK
    have f1 : (M : Int) < 1000 := by omega
    have g1 : decide ((M : Int) < 1000) = true := decide_eq_true f1
    have f2 : (1 : Int) ≤ (c : Int) := by omega
    have g2 : decide ((1 : Int) ≤ (c : Int)) = true := decide_eq_true f2
    have f3 : ¬ (c : Int) ≤ 8 := by omega
    have g3 : decide ((c : Int) ≤ 8) = false := decide_eq_false f3
    clear hTY hM hc hE ho hMb hn hD hQ hcE
    have HB := Lib.hid (Below.refl W.heap.size W)
    go_enter Tryd.func10, Tryd.ntmps10
    go_wp2_with fail
    refine (shown7_any _ (HT.out.below HB.out)).mono ?_
    rintro e w1 ⟨rfl, hb⟩
    have nHB := Lib.hid (belG HB.out hb HB.out.size)
    clear hb
    clear HB 
    have HB := nHB
    clear nHB 
    go_wp2_with fail
    refine (CP.out _ HB.out).mono ?_
    rintro e w2 ⟨rfl, hb⟩
    have nHB := Lib.hid (belG HB.out hb HB.out.size)
    clear hb
    clear HB 
    have HB := nHB
    clear nHB 
    go_wp2_with fail
    refine (CT.out _ HB.out).mono ?_
    rintro e w3 ⟨rfl, hb⟩
    have nHB := Lib.hid (belG HB.out hb HB.out.size)
    clear hb
    clear HB 
    have HB := nHB
    clear nHB 
    go_wp2_with fail
    refine (CK.out _ HB.out).mono ?_
    rintro e w4 ⟨rfl, hb⟩
    have nHB := Lib.hid (belG HB.out hb HB.out.size)
    clear hb
    clear HB 
    have HB := nHB
    clear nHB 
    go_wp2_with fail
    go_ret
    exact ⟨by first | rfl | simp, HB.out⟩
  by_cases k4 : D ≤ 4
  case neg =>
    have hTY : typeF (M : Int) = false := by unfold typeF; simp only [Bool.and_eq_false_iff, decide_eq_false_iff_not]; omega
    rw [show replyI (M : Int) = 0 by unfold replyI; rw [if_neg (by rw [hTY]; simp)], show replyY (M : Int) = false by unfold replyY; rw [hTY, Bool.false_and]] at CP
    rw [hTY] at CT
    rw [show classF (M : Int) = 0 by unfold classF; rw [if_neg (by rw [hTY]; simp)]] at CK
    have f1 : (M : Int) < 1000 := by omega
    have g1 : decide ((M : Int) < 1000) = true := decide_eq_true f1
    have f2 : (1 : Int) ≤ (c : Int) := by omega
    have g2 : decide ((1 : Int) ≤ (c : Int)) = true := decide_eq_true f2
    have f3 : (c : Int) ≤ 8 := by omega
    have g3 : decide ((c : Int) ≤ 8) = true := decide_eq_true f3
    have f4 : ¬ (D : Int) ≤ 4 := by omega
    have g4 : decide ((D : Int) ≤ 4) = false := decide_eq_false f4
    clear hTY hM hc hE ho hMb hn hD hQ hcE
    have HB := Lib.hid (Below.refl W.heap.size W)
    go_enter Tryd.func10, Tryd.ntmps10
    go_wp2_with fail
    refine (shown7_any _ (HT.out.below HB.out)).mono ?_
    rintro e w1 ⟨rfl, hb⟩
    have nHB := Lib.hid (belG HB.out hb HB.out.size)
    clear hb
    clear HB 
    have HB := nHB
    clear nHB 
    go_wp2_with fail
    refine (CP.out _ HB.out).mono ?_
    rintro e w2 ⟨rfl, hb⟩
    have nHB := Lib.hid (belG HB.out hb HB.out.size)
    clear hb
    clear HB 
    have HB := nHB
    clear nHB 
    go_wp2_with fail
    refine (CT.out _ HB.out).mono ?_
    rintro e w3 ⟨rfl, hb⟩
    have nHB := Lib.hid (belG HB.out hb HB.out.size)
    clear hb
    clear HB 
    have HB := nHB
    clear nHB 
    go_wp2_with fail
    refine (CK.out _ HB.out).mono ?_
    rintro e w4 ⟨rfl, hb⟩
    have nHB := Lib.hid (belG HB.out hb HB.out.size)
    clear hb
    clear HB 
    have HB := nHB
    clear nHB 
    go_wp2_with fail
    go_ret
    exact ⟨by first | rfl | simp, HB.out⟩
  by_cases k5 : o ≤ 5
  case neg =>
    have hTY : typeF (M : Int) = false := by unfold typeF; simp only [Bool.and_eq_false_iff, decide_eq_false_iff_not]; omega
    rw [show replyI (M : Int) = 0 by unfold replyI; rw [if_neg (by rw [hTY]; simp)], show replyY (M : Int) = false by unfold replyY; rw [hTY, Bool.false_and]] at CP
    rw [hTY] at CT
    rw [show classF (M : Int) = 0 by unfold classF; rw [if_neg (by rw [hTY]; simp)]] at CK
    have f1 : (M : Int) < 1000 := by omega
    have g1 : decide ((M : Int) < 1000) = true := decide_eq_true f1
    have f2 : (1 : Int) ≤ (c : Int) := by omega
    have g2 : decide ((1 : Int) ≤ (c : Int)) = true := decide_eq_true f2
    have f3 : (c : Int) ≤ 8 := by omega
    have g3 : decide ((c : Int) ≤ 8) = true := decide_eq_true f3
    have f4 : (D : Int) ≤ 4 := by omega
    have g4 : decide ((D : Int) ≤ 4) = true := decide_eq_true f4
    have f5 : ¬ (o : Int) ≤ 5 := by omega
    have g5 : decide ((o : Int) ≤ 5) = false := decide_eq_false f5
    clear hTY hM hc hE ho hMb hn hD hQ hcE
    have HB := Lib.hid (Below.refl W.heap.size W)
    go_enter Tryd.func10, Tryd.ntmps10
    go_wp2_with fail
    refine (shown7_any _ (HT.out.below HB.out)).mono ?_
    rintro e w1 ⟨rfl, hb⟩
    have nHB := Lib.hid (belG HB.out hb HB.out.size)
    clear hb
    clear HB 
    have HB := nHB
    clear nHB 
    go_wp2_with fail
    refine (CP.out _ HB.out).mono ?_
    rintro e w2 ⟨rfl, hb⟩
    have nHB := Lib.hid (belG HB.out hb HB.out.size)
    clear hb
    clear HB 
    have HB := nHB
    clear nHB 
    go_wp2_with fail
    refine (CT.out _ HB.out).mono ?_
    rintro e w3 ⟨rfl, hb⟩
    have nHB := Lib.hid (belG HB.out hb HB.out.size)
    clear hb
    clear HB 
    have HB := nHB
    clear nHB 
    go_wp2_with fail
    refine (CK.out _ HB.out).mono ?_
    rintro e w4 ⟨rfl, hb⟩
    have nHB := Lib.hid (belG HB.out hb HB.out.size)
    clear hb
    clear HB 
    have HB := nHB
    clear nHB 
    go_wp2_with fail
    go_ret
    exact ⟨by first | rfl | simp, HB.out⟩
  have hTY : typeF (M : Int) = true := by unfold typeF; simp only [Bool.and_eq_true, decide_eq_true_eq]; omega
  rw [hTY] at CT
  rw [show classF (M : Int) = (c : Int) by unfold classF; rw [if_pos hTY]; omega] at CK
  by_cases r0 : D = 0
  case pos =>
    obtain rfl : D = 0 := by omega
    obtain rfl : Q = 0 := by omega
    obtain ⟨K, hK⟩ : ∃ K, K = M + 10 := ⟨_, rfl⟩
    rw [show replyI (M : Int) = (K : Int) by unfold replyI; rw [if_pos ⟨hTY, by omega⟩, hK]; push_cast; rfl, show replyY (M : Int) = true by unfold replyY; rw [hTY, Bool.true_and]; simp; omega] at CP
    have hTY2 : typeF (K : Int) = true := by unfold typeF; simp only [Bool.and_eq_true, decide_eq_true_eq]; omega
    have CP2 := Lib.hid (fun w (hB : Below W.heap.size W w) => iReply_any (K : Int) (by unfold I64b; omega) w (hT.below hB))
    have CT2 := Lib.hid (fun w (hB : Below W.heap.size W w) => iType_any (K : Int) (by unfold I64b; omega) w (hT.below hB))
    have CK2 := Lib.hid (fun w (hB : Below W.heap.size W w) => iClass_any (K : Int) (by unfold I64b; omega) w (hT.below hB))
    rw [show replyI (K : Int) = 0 by unfold replyI; rw [if_neg (by omega)], show replyY (K : Int) = false by unfold replyY; rw [hTY2, Bool.true_and, decide_eq_false (by omega), decide_eq_false (by omega)]; rfl] at CP2
    rw [hTY2] at CT2
    rw [show classF (K : Int) = (c : Int) by unfold classF; rw [if_pos hTY2]; omega] at CK2
    have p2 : (K : Int) % 10 = (o : Int) := by omega
    have p1 : (K : Int).tmod 10 = (o : Int) := by rw [Int.tmod_eq_emod_of_nonneg (by omega)]; exact p2
    have hKM : (M : Int) + 10 = (K : Int) := by omega
    have z1 : ((c : Int) == (c : Int)) = true := by simp
    have z2 : ((o : Int) == (o : Int)) = true := by simp
    have z3 : ((K : Int) == (K : Int)) = true := by simp
    have z4 : ((c : Int) != (c : Int)) = false := by simp
    clear hTY2 hK
    have f1 : (M : Int) < 1000 := by omega
    have g1 : decide ((M : Int) < 1000) = true := decide_eq_true f1
    have f2 : (1 : Int) ≤ (c : Int) := by omega
    have g2 : decide ((1 : Int) ≤ (c : Int)) = true := decide_eq_true f2
    have f3 : (c : Int) ≤ 8 := by omega
    have g3 : decide ((c : Int) ≤ 8) = true := decide_eq_true f3
    have f5 : (o : Int) ≤ 5 := by omega
    have g5 : decide ((o : Int) ≤ 5) = true := decide_eq_true f5
    clear hTY hM hc hE ho hMb hn hD hQ hcE
    have HB := Lib.hid (Below.refl W.heap.size W)
    go_enter Tryd.func10, Tryd.ntmps10
    go_wp2_with fail
    refine (shown7_any _ (HT.out.below HB.out)).mono ?_
    rintro e w1 ⟨rfl, hb⟩
    have nHB := Lib.hid (belG HB.out hb HB.out.size)
    clear hb
    clear HB 
    have HB := nHB
    clear nHB 
    go_wp2_with fail
    refine (CP.out _ HB.out).mono ?_
    rintro e w2 ⟨rfl, hb⟩
    have nHB := Lib.hid (belG HB.out hb HB.out.size)
    clear hb
    clear HB 
    have HB := nHB
    clear nHB 
    go_wp2_with fail
    refine (CT.out _ HB.out).mono ?_
    rintro e w3 ⟨rfl, hb⟩
    have nHB := Lib.hid (belG HB.out hb HB.out.size)
    clear hb
    clear HB 
    have HB := nHB
    clear nHB 
    go_wp2_with fail
    refine (CK.out _ HB.out).mono ?_
    rintro e w4 ⟨rfl, hb⟩
    have nHB := Lib.hid (belG HB.out hb HB.out.size)
    clear hb
    clear HB 
    have HB := nHB
    clear nHB 
    go_wp2_with fail
    refine (CP2.out _ HB.out).mono ?_
    rintro e w5 ⟨rfl, hb⟩
    have nHB := Lib.hid (belG HB.out hb HB.out.size)
    clear hb
    clear HB 
    have HB := nHB
    clear nHB 
    go_wp2_with fail
    refine (CT2.out _ HB.out).mono ?_
    rintro e w6 ⟨rfl, hb⟩
    have nHB := Lib.hid (belG HB.out hb HB.out.size)
    clear hb
    clear HB 
    have HB := nHB
    clear nHB 
    go_wp2_with fail
    refine (CK2.out _ HB.out).mono ?_
    rintro e w7 ⟨rfl, hb⟩
    have nHB := Lib.hid (belG HB.out hb HB.out.size)
    clear hb
    clear HB 
    have HB := nHB
    clear nHB 
    go_wp2_with fail
    go_ret
    exact ⟨by first | rfl | simp, HB.out⟩
  by_cases r1 : D = 1
  case pos =>
    obtain rfl : D = 1 := by omega
    obtain rfl : Q = 1 := by omega
    rw [show replyI (M : Int) = 0 by unfold replyI; rw [if_neg (by omega)], show replyY (M : Int) = false by unfold replyY; rw [hTY, Bool.true_and, decide_eq_false (by omega), decide_eq_false (by omega)]; rfl] at CP
    have z4 : ((c : Int) != (c : Int)) = false := by simp
    have f1 : (M : Int) < 1000 := by omega
    have g1 : decide ((M : Int) < 1000) = true := decide_eq_true f1
    have f2 : (1 : Int) ≤ (c : Int) := by omega
    have g2 : decide ((1 : Int) ≤ (c : Int)) = true := decide_eq_true f2
    have f3 : (c : Int) ≤ 8 := by omega
    have g3 : decide ((c : Int) ≤ 8) = true := decide_eq_true f3
    have f5 : (o : Int) ≤ 5 := by omega
    have g5 : decide ((o : Int) ≤ 5) = true := decide_eq_true f5
    clear hTY hM hc hE ho hMb hn hD hQ hcE
    have HB := Lib.hid (Below.refl W.heap.size W)
    go_enter Tryd.func10, Tryd.ntmps10
    go_wp2_with fail
    refine (shown7_any _ (HT.out.below HB.out)).mono ?_
    rintro e w1 ⟨rfl, hb⟩
    have nHB := Lib.hid (belG HB.out hb HB.out.size)
    clear hb
    clear HB 
    have HB := nHB
    clear nHB 
    go_wp2_with fail
    refine (CP.out _ HB.out).mono ?_
    rintro e w2 ⟨rfl, hb⟩
    have nHB := Lib.hid (belG HB.out hb HB.out.size)
    clear hb
    clear HB 
    have HB := nHB
    clear nHB 
    go_wp2_with fail
    refine (CT.out _ HB.out).mono ?_
    rintro e w3 ⟨rfl, hb⟩
    have nHB := Lib.hid (belG HB.out hb HB.out.size)
    clear hb
    clear HB 
    have HB := nHB
    clear nHB 
    go_wp2_with fail
    refine (CK.out _ HB.out).mono ?_
    rintro e w4 ⟨rfl, hb⟩
    have nHB := Lib.hid (belG HB.out hb HB.out.size)
    clear hb
    clear HB 
    have HB := nHB
    clear nHB 
    go_wp2_with fail
    go_ret
    exact ⟨by first | rfl | simp, HB.out⟩
  by_cases r2 : D = 2
  case pos =>
    obtain rfl : D = 2 := by omega
    obtain rfl : Q = 0 := by omega
    obtain ⟨K, hK⟩ : ∃ K, K = M + 10 := ⟨_, rfl⟩
    rw [show replyI (M : Int) = (K : Int) by unfold replyI; rw [if_pos ⟨hTY, by omega⟩, hK]; push_cast; rfl, show replyY (M : Int) = true by unfold replyY; rw [hTY, Bool.true_and]; simp; omega] at CP
    have hTY2 : typeF (K : Int) = true := by unfold typeF; simp only [Bool.and_eq_true, decide_eq_true_eq]; omega
    have CP2 := Lib.hid (fun w (hB : Below W.heap.size W w) => iReply_any (K : Int) (by unfold I64b; omega) w (hT.below hB))
    have CT2 := Lib.hid (fun w (hB : Below W.heap.size W w) => iType_any (K : Int) (by unfold I64b; omega) w (hT.below hB))
    have CK2 := Lib.hid (fun w (hB : Below W.heap.size W w) => iClass_any (K : Int) (by unfold I64b; omega) w (hT.below hB))
    rw [show replyI (K : Int) = 0 by unfold replyI; rw [if_neg (by omega)], show replyY (K : Int) = false by unfold replyY; rw [hTY2, Bool.true_and, decide_eq_false (by omega), decide_eq_false (by omega)]; rfl] at CP2
    rw [hTY2] at CT2
    rw [show classF (K : Int) = (c : Int) by unfold classF; rw [if_pos hTY2]; omega] at CK2
    have p2 : (K : Int) % 10 = (o : Int) := by omega
    have p1 : (K : Int).tmod 10 = (o : Int) := by rw [Int.tmod_eq_emod_of_nonneg (by omega)]; exact p2
    have hKM : (M : Int) + 10 = (K : Int) := by omega
    have z1 : ((c : Int) == (c : Int)) = true := by simp
    have z2 : ((o : Int) == (o : Int)) = true := by simp
    have z3 : ((K : Int) == (K : Int)) = true := by simp
    have z4 : ((c : Int) != (c : Int)) = false := by simp
    clear hTY2 hK
    have f1 : (M : Int) < 1000 := by omega
    have g1 : decide ((M : Int) < 1000) = true := decide_eq_true f1
    have f2 : (1 : Int) ≤ (c : Int) := by omega
    have g2 : decide ((1 : Int) ≤ (c : Int)) = true := decide_eq_true f2
    have f3 : (c : Int) ≤ 8 := by omega
    have g3 : decide ((c : Int) ≤ 8) = true := decide_eq_true f3
    have f5 : (o : Int) ≤ 5 := by omega
    have g5 : decide ((o : Int) ≤ 5) = true := decide_eq_true f5
    clear hTY hM hc hE ho hMb hn hD hQ hcE
    have HB := Lib.hid (Below.refl W.heap.size W)
    go_enter Tryd.func10, Tryd.ntmps10
    go_wp2_with fail
    refine (shown7_any _ (HT.out.below HB.out)).mono ?_
    rintro e w1 ⟨rfl, hb⟩
    have nHB := Lib.hid (belG HB.out hb HB.out.size)
    clear hb
    clear HB 
    have HB := nHB
    clear nHB 
    go_wp2_with fail
    refine (CP.out _ HB.out).mono ?_
    rintro e w2 ⟨rfl, hb⟩
    have nHB := Lib.hid (belG HB.out hb HB.out.size)
    clear hb
    clear HB 
    have HB := nHB
    clear nHB 
    go_wp2_with fail
    refine (CT.out _ HB.out).mono ?_
    rintro e w3 ⟨rfl, hb⟩
    have nHB := Lib.hid (belG HB.out hb HB.out.size)
    clear hb
    clear HB 
    have HB := nHB
    clear nHB 
    go_wp2_with fail
    refine (CK.out _ HB.out).mono ?_
    rintro e w4 ⟨rfl, hb⟩
    have nHB := Lib.hid (belG HB.out hb HB.out.size)
    clear hb
    clear HB 
    have HB := nHB
    clear nHB 
    go_wp2_with fail
    refine (CP2.out _ HB.out).mono ?_
    rintro e w5 ⟨rfl, hb⟩
    have nHB := Lib.hid (belG HB.out hb HB.out.size)
    clear hb
    clear HB 
    have HB := nHB
    clear nHB 
    go_wp2_with fail
    refine (CT2.out _ HB.out).mono ?_
    rintro e w6 ⟨rfl, hb⟩
    have nHB := Lib.hid (belG HB.out hb HB.out.size)
    clear hb
    clear HB 
    have HB := nHB
    clear nHB 
    go_wp2_with fail
    refine (CK2.out _ HB.out).mono ?_
    rintro e w7 ⟨rfl, hb⟩
    have nHB := Lib.hid (belG HB.out hb HB.out.size)
    clear hb
    clear HB 
    have HB := nHB
    clear nHB 
    go_wp2_with fail
    go_ret
    exact ⟨by first | rfl | simp, HB.out⟩
  by_cases r3 : D = 3
  case pos =>
    obtain rfl : D = 3 := by omega
    obtain rfl : Q = 1 := by omega
    rw [show replyI (M : Int) = 0 by unfold replyI; rw [if_neg (by omega)], show replyY (M : Int) = false by unfold replyY; rw [hTY, Bool.true_and, decide_eq_false (by omega), decide_eq_false (by omega)]; rfl] at CP
    have z4 : ((c : Int) != (c : Int)) = false := by simp
    have f1 : (M : Int) < 1000 := by omega
    have g1 : decide ((M : Int) < 1000) = true := decide_eq_true f1
    have f2 : (1 : Int) ≤ (c : Int) := by omega
    have g2 : decide ((1 : Int) ≤ (c : Int)) = true := decide_eq_true f2
    have f3 : (c : Int) ≤ 8 := by omega
    have g3 : decide ((c : Int) ≤ 8) = true := decide_eq_true f3
    have f5 : (o : Int) ≤ 5 := by omega
    have g5 : decide ((o : Int) ≤ 5) = true := decide_eq_true f5
    clear hTY hM hc hE ho hMb hn hD hQ hcE
    have HB := Lib.hid (Below.refl W.heap.size W)
    go_enter Tryd.func10, Tryd.ntmps10
    go_wp2_with fail
    refine (shown7_any _ (HT.out.below HB.out)).mono ?_
    rintro e w1 ⟨rfl, hb⟩
    have nHB := Lib.hid (belG HB.out hb HB.out.size)
    clear hb
    clear HB 
    have HB := nHB
    clear nHB 
    go_wp2_with fail
    refine (CP.out _ HB.out).mono ?_
    rintro e w2 ⟨rfl, hb⟩
    have nHB := Lib.hid (belG HB.out hb HB.out.size)
    clear hb
    clear HB 
    have HB := nHB
    clear nHB 
    go_wp2_with fail
    refine (CT.out _ HB.out).mono ?_
    rintro e w3 ⟨rfl, hb⟩
    have nHB := Lib.hid (belG HB.out hb HB.out.size)
    clear hb
    clear HB 
    have HB := nHB
    clear nHB 
    go_wp2_with fail
    refine (CK.out _ HB.out).mono ?_
    rintro e w4 ⟨rfl, hb⟩
    have nHB := Lib.hid (belG HB.out hb HB.out.size)
    clear hb
    clear HB 
    have HB := nHB
    clear nHB 
    go_wp2_with fail
    go_ret
    exact ⟨by first | rfl | simp, HB.out⟩
  obtain rfl : D = 4 := by omega
  obtain rfl : Q = 0 := by omega
  rw [show replyI (M : Int) = 0 by unfold replyI; rw [if_neg (by omega)], show replyY (M : Int) = false by unfold replyY; rw [hTY, Bool.true_and, decide_eq_false (by omega), decide_eq_false (by omega)]; rfl] at CP
  have z4 : ((c : Int) != (c : Int)) = false := by simp
  have f1 : (M : Int) < 1000 := by omega
  have g1 : decide ((M : Int) < 1000) = true := decide_eq_true f1
  have f2 : (1 : Int) ≤ (c : Int) := by omega
  have g2 : decide ((1 : Int) ≤ (c : Int)) = true := decide_eq_true f2
  have f3 : (c : Int) ≤ 8 := by omega
  have g3 : decide ((c : Int) ≤ 8) = true := decide_eq_true f3
  have f5 : (o : Int) ≤ 5 := by omega
  have g5 : decide ((o : Int) ≤ 5) = true := decide_eq_true f5
  clear hTY hM hc hE ho hMb hn hD hQ hcE
  have HB := Lib.hid (Below.refl W.heap.size W)
  go_enter Tryd.func10, Tryd.ntmps10
  go_wp2_with fail
  refine (shown7_any _ (HT.out.below HB.out)).mono ?_
  rintro e w1 ⟨rfl, hb⟩
  have nHB := Lib.hid (belG HB.out hb HB.out.size)
  clear hb
  clear HB 
  have HB := nHB
  clear nHB 
  go_wp2_with fail
  refine (CP.out _ HB.out).mono ?_
  rintro e w2 ⟨rfl, hb⟩
  have nHB := Lib.hid (belG HB.out hb HB.out.size)
  clear hb
  clear HB 
  have HB := nHB
  clear nHB 
  go_wp2_with fail
  refine (CT.out _ HB.out).mono ?_
  rintro e w3 ⟨rfl, hb⟩
  have nHB := Lib.hid (belG HB.out hb HB.out.size)
  clear hb
  clear HB 
  have HB := nHB
  clear nHB 
  go_wp2_with fail
  refine (CK.out _ HB.out).mono ?_
  rintro e w4 ⟨rfl, hb⟩
  have nHB := Lib.hid (belG HB.out hb HB.out.size)
  clear hb
  clear HB 
  have HB := nHB
  clear nHB 
  go_wp2_with fail
  go_ret
  exact ⟨by first | rfl | simp, HB.out⟩
end Go.Proofs.YtpfjecjfooefoaaDoor
