
/- EnvApart's walk. -/
import Derived.Test.YtjkkceecagbjjaaELong
namespace Go.Proofs.Ytjkkceecagbjjaa
open Go.RowKit

set_option maxRecDepth 100000 in
theorem KeyE.put1 {w : World} {g : Nat} {T : TypeId} {C : Array Value} {x : Wke} {l : List UInt8} (k : KeyE w x l) (hg : Bx w g T C) (hn : No8 C) (o : Nat) (v : Value) : KeyE (w.setCell ⟨g, o, none⟩ v) x l := ⟨k.1, k.2.1, Rd.putX (o := o) k.2.2 hg hn [v]⟩
set_option maxRecDepth 100000 in
theorem EnvR.put1 {w : World} {g : Nat} {T : TypeId} {C : Array Value} {x : We} {e : Ev} (k : EnvR w x e) (hg : Bx w g T C) (hn : No8 C) (o : Nat) (v : Value) : EnvR (w.setCell ⟨g, o, none⟩ v) x e := ⟨k.1.put1 hg hn o v, k.2.put1 hg hn o v⟩
set_option maxRecDepth 100000 in
theorem KeyE.drop {w : World} {ab ao c : Nat} {l : List UInt8} (h : KeyE w (some ⟨ab, ao, none⟩, c) l) (i : Nat) (h1 : i ≤ l.length) : KeyE w (some ⟨ab, ao + i, none⟩, c - i) (l.drop i) := by
  have h3 := h.cut i (l.length - i) (by omega)
  rwa [List.take_of_length_le (by rw [List.length_drop]; omega)] at h3
set_option maxRecDepth 100000 in
theorem apart_iff {a b : Ev} (ha : RightE a) (hb : RightE b) : decide (a = { b with tag := a.tag }) = decide (inL a = inL b) := by
  rw [decide_eq_decide]
  constructor
  · intro h
    rw [h]
    rfl
  · intro h
    have h2 := in_apart ha.1 hb.1 h a.tag ha.2
    exact h2
set_option maxRecDepth 100000 in
set_option maxHeartbeats 4000000 in
theorem envApart_walk (x y : We) (a b : Ev) (W : World) (h64a : Ev64 a) (h64b : Ev64 b) (ha : EnvR W x a) (hb : EnvR W y b) :
    Calls Try.prog 6 #[.agg (envC x a), .agg (envC y b)] W fun e W' => e = .returned (.bool true) ∧ Below W.heap.size W W' := by
  have RA := Lib.hid ha
  have RB := Lib.hid hb
  clear ha hb
  have C1 := Lib.hid (fun w => few12_any x a w)
  have C2 := Lib.hid (fun w => few12_any y b w)
  have C3 := Lib.hid (fun w => right12_any x a w)
  have C4 := Lib.hid (fun w => right12_any y b w)
  by_cases h1 : fewE a
  case neg =>
    rw [decide_eq_false h1] at C1
    clear h1
    obtain ⟨V0, hV, hb, hg, hj, hs⟩ := bx2 W 25 25 (envC x a) (envC y b)
    have HB := Lib.hid hb
    have A := Lib.hid hg
    have B := Lib.hid hj
    have HV := Lib.hid hV
    have nRA := Lib.hid (RA.out.go hb)
    clear RA
    have RA := nRA
    clear nRA
    have nRB := Lib.hid (RB.out.go hb)
    clear RB
    have RB := nRB
    clear nRB
    have NEAB := Lib.hid (show W.heap.size ≠ W.heap.size + 1 by omega)
    have NEBA := Lib.hid (NEAB.out.symm)
    clear hb hg hj hV hs
    go_enter Try.func6, Try.ntmps6
    go_upto_region 1 with (fail)
    rw [← HV.out]
    clear HV
    go_wp2_with fail
    refine (shown12_any _).mono ?_
    rintro e w1 ⟨rfl, hb⟩
    have nHB := Lib.hid (belG HB.out hb HB.out.size)
    have nRA := Lib.hid (RA.out.go hb)
    have nRB := Lib.hid (RB.out.go hb)
    have nA := Lib.hid (Bx.go A.out hb)
    have nB := Lib.hid (Bx.go B.out hb)
    clear hb
    clear HB RA RB A B
    have HB := nHB
    have RA := nRA
    have RB := nRB
    have A := nA
    have B := nB
    clear nHB nRA nRB nA nB
    go_wp2_with (refine loadX (.tmp 2) W.heap.size (envC x a) tyEnv rfl A.out rfl rfl rfl ?_)
    refine (C1.out _).mono ?_
    rintro e w2 ⟨rfl, hb⟩
    have nHB := Lib.hid (belG HB.out hb HB.out.size)
    have nRA := Lib.hid (RA.out.go hb)
    have nRB := Lib.hid (RB.out.go hb)
    have nA := Lib.hid (Bx.go A.out hb)
    have nB := Lib.hid (Bx.go B.out hb)
    clear hb
    clear HB RA RB A B
    have HB := nHB
    have RA := nRA
    have RB := nRB
    have A := nA
    have B := nB
    clear nHB nRA nRB nA nB
    go_wp2_with fail
    go_ret
    exact ⟨rfl, HB.out⟩
  rw [decide_eq_true h1] at C1
  by_cases h2 : fewE b
  case neg =>
    rw [decide_eq_false h2] at C2
    clear h1 h2
    obtain ⟨V0, hV, hb, hg, hj, hs⟩ := bx2 W 25 25 (envC x a) (envC y b)
    have HB := Lib.hid hb
    have A := Lib.hid hg
    have B := Lib.hid hj
    have HV := Lib.hid hV
    have nRA := Lib.hid (RA.out.go hb)
    clear RA
    have RA := nRA
    clear nRA
    have nRB := Lib.hid (RB.out.go hb)
    clear RB
    have RB := nRB
    clear nRB
    have NEAB := Lib.hid (show W.heap.size ≠ W.heap.size + 1 by omega)
    have NEBA := Lib.hid (NEAB.out.symm)
    clear hb hg hj hV hs
    go_enter Try.func6, Try.ntmps6
    go_upto_region 1 with (fail)
    rw [← HV.out]
    clear HV
    go_wp2_with fail
    refine (shown12_any _).mono ?_
    rintro e w1 ⟨rfl, hb⟩
    have nHB := Lib.hid (belG HB.out hb HB.out.size)
    have nRA := Lib.hid (RA.out.go hb)
    have nRB := Lib.hid (RB.out.go hb)
    have nA := Lib.hid (Bx.go A.out hb)
    have nB := Lib.hid (Bx.go B.out hb)
    clear hb
    clear HB RA RB A B
    have HB := nHB
    have RA := nRA
    have RB := nRB
    have A := nA
    have B := nB
    clear nHB nRA nRB nA nB
    go_wp2_with (refine loadX (.tmp 2) W.heap.size (envC x a) tyEnv rfl A.out rfl rfl rfl ?_)
    refine (C1.out _).mono ?_
    rintro e w2 ⟨rfl, hb⟩
    have nHB := Lib.hid (belG HB.out hb HB.out.size)
    have nRA := Lib.hid (RA.out.go hb)
    have nRB := Lib.hid (RB.out.go hb)
    have nA := Lib.hid (Bx.go A.out hb)
    have nB := Lib.hid (Bx.go B.out hb)
    clear hb
    clear HB RA RB A B
    have HB := nHB
    have RA := nRA
    have RB := nRB
    have A := nA
    have B := nB
    clear nHB nRA nRB nA nB
    go_wp2_with (refine loadX (.tmp 3) (W.heap.size + 1) (envC y b) tyEnv rfl B.out rfl rfl rfl ?_)
    refine (C2.out _).mono ?_
    rintro e w3 ⟨rfl, hb⟩
    have nHB := Lib.hid (belG HB.out hb HB.out.size)
    have nRA := Lib.hid (RA.out.go hb)
    have nRB := Lib.hid (RB.out.go hb)
    have nA := Lib.hid (Bx.go A.out hb)
    have nB := Lib.hid (Bx.go B.out hb)
    clear hb
    clear HB RA RB A B
    have HB := nHB
    have RA := nRA
    have RB := nRB
    have A := nA
    have B := nB
    clear nHB nRA nRB nA nB
    go_wp2_with fail
    go_ret
    exact ⟨rfl, HB.out⟩
  rw [decide_eq_true h2] at C2
  by_cases h3 : RightE a
  case neg =>
    rw [decide_eq_false h3] at C3
    clear h1 h2 h3
    obtain ⟨V0, hV, hb, hg, hj, hs⟩ := bx2 W 25 25 (envC x a) (envC y b)
    have HB := Lib.hid hb
    have A := Lib.hid hg
    have B := Lib.hid hj
    have HV := Lib.hid hV
    have nRA := Lib.hid (RA.out.go hb)
    clear RA
    have RA := nRA
    clear nRA
    have nRB := Lib.hid (RB.out.go hb)
    clear RB
    have RB := nRB
    clear nRB
    have NEAB := Lib.hid (show W.heap.size ≠ W.heap.size + 1 by omega)
    have NEBA := Lib.hid (NEAB.out.symm)
    clear hb hg hj hV hs
    go_enter Try.func6, Try.ntmps6
    go_upto_region 1 with (fail)
    rw [← HV.out]
    clear HV
    go_wp2_with fail
    refine (shown12_any _).mono ?_
    rintro e w1 ⟨rfl, hb⟩
    have nHB := Lib.hid (belG HB.out hb HB.out.size)
    have nRA := Lib.hid (RA.out.go hb)
    have nRB := Lib.hid (RB.out.go hb)
    have nA := Lib.hid (Bx.go A.out hb)
    have nB := Lib.hid (Bx.go B.out hb)
    clear hb
    clear HB RA RB A B
    have HB := nHB
    have RA := nRA
    have RB := nRB
    have A := nA
    have B := nB
    clear nHB nRA nRB nA nB
    go_wp2_with (refine loadX (.tmp 2) W.heap.size (envC x a) tyEnv rfl A.out rfl rfl rfl ?_)
    refine (C1.out _).mono ?_
    rintro e w2 ⟨rfl, hb⟩
    have nHB := Lib.hid (belG HB.out hb HB.out.size)
    have nRA := Lib.hid (RA.out.go hb)
    have nRB := Lib.hid (RB.out.go hb)
    have nA := Lib.hid (Bx.go A.out hb)
    have nB := Lib.hid (Bx.go B.out hb)
    clear hb
    clear HB RA RB A B
    have HB := nHB
    have RA := nRA
    have RB := nRB
    have A := nA
    have B := nB
    clear nHB nRA nRB nA nB
    go_wp2_with (refine loadX (.tmp 3) (W.heap.size + 1) (envC y b) tyEnv rfl B.out rfl rfl rfl ?_)
    refine (C2.out _).mono ?_
    rintro e w3 ⟨rfl, hb⟩
    have nHB := Lib.hid (belG HB.out hb HB.out.size)
    have nRA := Lib.hid (RA.out.go hb)
    have nRB := Lib.hid (RB.out.go hb)
    have nA := Lib.hid (Bx.go A.out hb)
    have nB := Lib.hid (Bx.go B.out hb)
    clear hb
    clear HB RA RB A B
    have HB := nHB
    have RA := nRA
    have RB := nRB
    have A := nA
    have B := nB
    clear nHB nRA nRB nA nB
    go_wp2_with (refine loadX (.tmp 2) W.heap.size (envC x a) tyEnv rfl A.out rfl rfl rfl ?_)
    refine (C3.out _).mono ?_
    rintro e w4 ⟨rfl, hb⟩
    have nHB := Lib.hid (belG HB.out hb HB.out.size)
    have nRA := Lib.hid (RA.out.go hb)
    have nRB := Lib.hid (RB.out.go hb)
    have nA := Lib.hid (Bx.go A.out hb)
    have nB := Lib.hid (Bx.go B.out hb)
    clear hb
    clear HB RA RB A B
    have HB := nHB
    have RA := nRA
    have RB := nRB
    have A := nA
    have B := nB
    clear nHB nRA nRB nA nB
    go_wp2_with fail
    go_ret
    exact ⟨rfl, HB.out⟩
  rw [decide_eq_true h3] at C3
  by_cases h4 : RightE b
  case neg =>
    rw [decide_eq_false h4] at C4
    clear h1 h2 h3 h4
    obtain ⟨V0, hV, hb, hg, hj, hs⟩ := bx2 W 25 25 (envC x a) (envC y b)
    have HB := Lib.hid hb
    have A := Lib.hid hg
    have B := Lib.hid hj
    have HV := Lib.hid hV
    have nRA := Lib.hid (RA.out.go hb)
    clear RA
    have RA := nRA
    clear nRA
    have nRB := Lib.hid (RB.out.go hb)
    clear RB
    have RB := nRB
    clear nRB
    have NEAB := Lib.hid (show W.heap.size ≠ W.heap.size + 1 by omega)
    have NEBA := Lib.hid (NEAB.out.symm)
    clear hb hg hj hV hs
    go_enter Try.func6, Try.ntmps6
    go_upto_region 1 with (fail)
    rw [← HV.out]
    clear HV
    go_wp2_with fail
    refine (shown12_any _).mono ?_
    rintro e w1 ⟨rfl, hb⟩
    have nHB := Lib.hid (belG HB.out hb HB.out.size)
    have nRA := Lib.hid (RA.out.go hb)
    have nRB := Lib.hid (RB.out.go hb)
    have nA := Lib.hid (Bx.go A.out hb)
    have nB := Lib.hid (Bx.go B.out hb)
    clear hb
    clear HB RA RB A B
    have HB := nHB
    have RA := nRA
    have RB := nRB
    have A := nA
    have B := nB
    clear nHB nRA nRB nA nB
    go_wp2_with (refine loadX (.tmp 2) W.heap.size (envC x a) tyEnv rfl A.out rfl rfl rfl ?_)
    refine (C1.out _).mono ?_
    rintro e w2 ⟨rfl, hb⟩
    have nHB := Lib.hid (belG HB.out hb HB.out.size)
    have nRA := Lib.hid (RA.out.go hb)
    have nRB := Lib.hid (RB.out.go hb)
    have nA := Lib.hid (Bx.go A.out hb)
    have nB := Lib.hid (Bx.go B.out hb)
    clear hb
    clear HB RA RB A B
    have HB := nHB
    have RA := nRA
    have RB := nRB
    have A := nA
    have B := nB
    clear nHB nRA nRB nA nB
    go_wp2_with (refine loadX (.tmp 3) (W.heap.size + 1) (envC y b) tyEnv rfl B.out rfl rfl rfl ?_)
    refine (C2.out _).mono ?_
    rintro e w3 ⟨rfl, hb⟩
    have nHB := Lib.hid (belG HB.out hb HB.out.size)
    have nRA := Lib.hid (RA.out.go hb)
    have nRB := Lib.hid (RB.out.go hb)
    have nA := Lib.hid (Bx.go A.out hb)
    have nB := Lib.hid (Bx.go B.out hb)
    clear hb
    clear HB RA RB A B
    have HB := nHB
    have RA := nRA
    have RB := nRB
    have A := nA
    have B := nB
    clear nHB nRA nRB nA nB
    go_wp2_with (refine loadX (.tmp 2) W.heap.size (envC x a) tyEnv rfl A.out rfl rfl rfl ?_)
    refine (C3.out _).mono ?_
    rintro e w4 ⟨rfl, hb⟩
    have nHB := Lib.hid (belG HB.out hb HB.out.size)
    have nRA := Lib.hid (RA.out.go hb)
    have nRB := Lib.hid (RB.out.go hb)
    have nA := Lib.hid (Bx.go A.out hb)
    have nB := Lib.hid (Bx.go B.out hb)
    clear hb
    clear HB RA RB A B
    have HB := nHB
    have RA := nRA
    have RB := nRB
    have A := nA
    have B := nB
    clear nHB nRA nRB nA nB
    go_wp2_with (refine loadX (.tmp 3) (W.heap.size + 1) (envC y b) tyEnv rfl B.out rfl rfl rfl ?_)
    refine (C4.out _).mono ?_
    rintro e w5 ⟨rfl, hb⟩
    have nHB := Lib.hid (belG HB.out hb HB.out.size)
    have nRA := Lib.hid (RA.out.go hb)
    have nRB := Lib.hid (RB.out.go hb)
    have nA := Lib.hid (Bx.go A.out hb)
    have nB := Lib.hid (Bx.go B.out hb)
    clear hb
    clear HB RA RB A B
    have HB := nHB
    have RA := nRA
    have RB := nRB
    have A := nA
    have B := nB
    clear nHB nRA nRB nA nB
    go_wp2_with fail
    go_ret
    exact ⟨rfl, HB.out⟩
  rw [decide_eq_true h4] at C4
  have EI := Lib.hid (fun w h => eInput_any x a w h1.k h64a h)
  have EJ := Lib.hid (fun w h => eInput_any y b w h2.k h64b h)
  have EW := Lib.hid (fun w h => eWrite_any x a w h1.k h64a h)
  rw [show inputE a = (inL a, 0) from by unfold inputE; rw [if_pos h3.1]] at EI
  rw [show inputE b = (inL b, 0) from by unfold inputE; rw [if_pos h4.1]] at EJ
  rw [show writeE a = (inL a ++ a.tag, 0) from by unfold writeE; rw [if_pos h3]] at EW
  have DS := Lib.hid (fun u v w h k => same12_any u v a { b with tag := a.tag } w h k)
  rw [apart_iff h3 h4] at DS
  have S1 := Lib.hid (fun (u v : Wke) w h k => sameE_any u v (inL a) (inL b) w h k)
  generalize decide (inL a = inL b) = p at *
  have S2 := Lib.hid (fun (u v : Wke) w h k => sameE_any u v (inL a) (inL a) w h k)
  have S3 := Lib.hid (fun (u v : Wke) w h k => sameE_any u v a.tag a.tag w h k)
  rw [decide_eq_true (rfl : inL a = inL a)] at S2
  rw [decide_eq_true (rfl : a.tag = a.tag)] at S3
  have hla := inL_len a
  have hta := h3.2
  have hba := h3.1.2.2.2.2.2.2.2
  have hbb := inL_len b
  have hlw : (inL a ++ a.tag).length = (inL a).length + 16 := by rw [List.length_append, hta]
  have hT1 : (inL a ++ a.tag).take (inL a).length = inL a := List.take_left
  have hT2 : (inL a ++ a.tag).drop (inL a).length = a.tag := List.drop_left
  obtain ⟨li, hli⟩ : ∃ l, l = inL a := ⟨_, rfl⟩
  obtain ⟨lj, hlj⟩ : ∃ l, l = inL b := ⟨_, rfl⟩
  obtain ⟨lw, hlw2⟩ : ∃ l, l = inL a ++ a.tag := ⟨_, rfl⟩
  rw [← hlw2] at EW hlw hT1 hT2
  rw [← hli] at EI S1 S2 hla hlw hT1 hT2
  rw [← hlj] at EJ S1
  obtain ⟨la, hlaa⟩ : ∃ n, n = a.body.length := ⟨_, rfl⟩
  obtain ⟨N1, hN1⟩ : ∃ n, n = li.length := ⟨_, rfl⟩
  obtain ⟨N2, hN2⟩ : ∃ n, n = lj.length := ⟨_, rfl⟩
  obtain ⟨N3, hN3⟩ : ∃ n, n = lw.length := ⟨_, rfl⟩
  rw [← hN1] at hla hlw S1 S2 hT1 hT2
  rw [← hN2] at S1
  rw [← hN3] at hlw
  rw [← hlaa] at hla hba
  rw [hta] at S3
  have HL1 := Lib.hid hN1.symm
  have HL2 := Lib.hid hN2.symm
  have HL3 := Lib.hid hN3.symm
  have HLA := Lib.hid hlaa.symm
  have HT1 := Lib.hid hT1
  have HT2 := Lib.hid hT2
  have HTA := Lib.hid hta
  have j1 : (30 : Int) + (la : Int) = (N1 : Int) := by omega
  have j2 : (N1 : Int) + 16 = (N3 : Int) := by omega
  have j3 : (N1 : Int) ≤ 930 := by omega
  have j4 : (la : Int) ≤ 900 := by omega
  have j5 : (0 : Int) ≤ (N1 : Int) := by omega
  have j6 : (N1 : Int) ≤ (N3 : Int) := by omega
  have HD := Lib.hid (show N3 - N1 = 16 by omega)
  have HD0 := Lib.hid (show N1 < N3 by omega)
  clear h1 h2 h3 h4 h64a h64b hla hta hba hbb hlw hT1 hT2 hli hlj hlw2 hlaa hN1 hN2 hN3
  obtain ⟨V0, hV, hb, hg, hj, hs⟩ := bx2 W 25 25 (envC x a) (envC y b)
  have HB := Lib.hid hb
  have A := Lib.hid hg
  have B := Lib.hid hj
  have HV := Lib.hid hV
  have nRA := Lib.hid (RA.out.go hb)
  clear RA
  have RA := nRA
  clear nRA
  have nRB := Lib.hid (RB.out.go hb)
  clear RB
  have RB := nRB
  clear nRB
  have NEAB := Lib.hid (show W.heap.size ≠ W.heap.size + 1 by omega)
  have NEBA := Lib.hid (NEAB.out.symm)
  clear hb hg hj hV hs
  go_enter Try.func6, Try.ntmps6
  go_upto_region 1 with (fail)
  rw [← HV.out]
  clear HV
  go_wp2_with fail
  refine (shown12_any _).mono ?_
  rintro e w1 ⟨rfl, hb⟩
  have nHB := Lib.hid (belG HB.out hb HB.out.size)
  have nRA := Lib.hid (RA.out.go hb)
  have nRB := Lib.hid (RB.out.go hb)
  have nA := Lib.hid (Bx.go A.out hb)
  have nB := Lib.hid (Bx.go B.out hb)
  clear hb
  clear HB RA RB A B
  have HB := nHB
  have RA := nRA
  have RB := nRB
  have A := nA
  have B := nB
  clear nHB nRA nRB nA nB
  go_wp2_with (refine loadX (.tmp 2) W.heap.size (envC x a) tyEnv rfl A.out rfl rfl rfl ?_)
  refine (C1.out _).mono ?_
  rintro e w2 ⟨rfl, hb⟩
  have nHB := Lib.hid (belG HB.out hb HB.out.size)
  have nRA := Lib.hid (RA.out.go hb)
  have nRB := Lib.hid (RB.out.go hb)
  have nA := Lib.hid (Bx.go A.out hb)
  have nB := Lib.hid (Bx.go B.out hb)
  clear hb
  clear HB RA RB A B
  have HB := nHB
  have RA := nRA
  have RB := nRB
  have A := nA
  have B := nB
  clear nHB nRA nRB nA nB
  go_wp2_with (refine loadX (.tmp 3) (W.heap.size + 1) (envC y b) tyEnv rfl B.out rfl rfl rfl ?_)
  refine (C2.out _).mono ?_
  rintro e w3 ⟨rfl, hb⟩
  have nHB := Lib.hid (belG HB.out hb HB.out.size)
  have nRA := Lib.hid (RA.out.go hb)
  have nRB := Lib.hid (RB.out.go hb)
  have nA := Lib.hid (Bx.go A.out hb)
  have nB := Lib.hid (Bx.go B.out hb)
  clear hb
  clear HB RA RB A B
  have HB := nHB
  have RA := nRA
  have RB := nRB
  have A := nA
  have B := nB
  clear nHB nRA nRB nA nB
  go_wp2_with (refine loadX (.tmp 2) W.heap.size (envC x a) tyEnv rfl A.out rfl rfl rfl ?_)
  refine (C3.out _).mono ?_
  rintro e w4 ⟨rfl, hb⟩
  have nHB := Lib.hid (belG HB.out hb HB.out.size)
  have nRA := Lib.hid (RA.out.go hb)
  have nRB := Lib.hid (RB.out.go hb)
  have nA := Lib.hid (Bx.go A.out hb)
  have nB := Lib.hid (Bx.go B.out hb)
  clear hb
  clear HB RA RB A B
  have HB := nHB
  have RA := nRA
  have RB := nRB
  have A := nA
  have B := nB
  clear nHB nRA nRB nA nB
  go_wp2_with (refine loadX (.tmp 3) (W.heap.size + 1) (envC y b) tyEnv rfl B.out rfl rfl rfl ?_)
  refine (C4.out _).mono ?_
  rintro e w5 ⟨rfl, hb⟩
  have nHB := Lib.hid (belG HB.out hb HB.out.size)
  have nRA := Lib.hid (RA.out.go hb)
  have nRB := Lib.hid (RB.out.go hb)
  have nA := Lib.hid (Bx.go A.out hb)
  have nB := Lib.hid (Bx.go B.out hb)
  clear hb
  clear HB RA RB A B
  have HB := nHB
  have RA := nRA
  have RB := nRB
  have A := nA
  have B := nB
  clear nHB nRA nRB nA nB
  go_wp2_with (refine loadX (.tmp 2) W.heap.size (envC x a) tyEnv rfl A.out rfl rfl rfl ?_)
  refine (EI.out _ RA.out).mono ?_
  rintro e w6 ⟨⟨v1, rfl, how⟩, hb⟩
  have nHB := Lib.hid (belG HB.out hb HB.out.size)
  have nRA := Lib.hid (RA.out.go hb)
  have nRB := Lib.hid (RB.out.go hb)
  have nA := Lib.hid (Bx.go A.out hb)
  have nB := Lib.hid (Bx.go B.out hb)
  clear hb
  clear HB RA RB A B
  have HB := nHB
  have RA := nRA
  have RB := nRB
  have A := nA
  have B := nB
  clear nHB nRA nRB nA nB
  obtain ⟨y1, rfl, hk⟩ := how.keyE
  have K1 := Lib.hid hk
  clear hk how
  rw [HL1.out]
  go_wp2_with (refine loadX (.tmp 3) (W.heap.size + 1) (envC y b) tyEnv rfl B.out rfl rfl rfl ?_)
  refine (EJ.out _ RB.out).mono ?_
  rintro e w7 ⟨⟨v2, rfl, how⟩, hb⟩
  have nHB := Lib.hid (belG HB.out hb HB.out.size)
  have nRA := Lib.hid (RA.out.go hb)
  have nRB := Lib.hid (RB.out.go hb)
  have nK1 := Lib.hid (K1.out.go hb)
  have nA := Lib.hid (Bx.go A.out hb)
  have nB := Lib.hid (Bx.go B.out hb)
  clear hb
  clear HB RA RB K1 A B
  have HB := nHB
  have RA := nRA
  have RB := nRB
  have K1 := nK1
  have A := nA
  have B := nB
  clear nHB nRA nRB nK1 nA nB
  obtain ⟨y2, rfl, hk⟩ := how.keyE
  have K2 := Lib.hid hk
  clear hk how
  rw [HL2.out]
  go_wp2_with (refine loadX (.tmp 2) W.heap.size (envC x a) tyEnv rfl A.out rfl rfl rfl ?_)
  refine (EW.out _ RA.out).mono ?_
  rintro e w8 ⟨⟨v3, rfl, how⟩, hb⟩
  have nHB := Lib.hid (belG HB.out hb HB.out.size)
  have nRA := Lib.hid (RA.out.go hb)
  have nRB := Lib.hid (RB.out.go hb)
  have nK1 := Lib.hid (K1.out.go hb)
  have nK2 := Lib.hid (K2.out.go hb)
  have nA := Lib.hid (Bx.go A.out hb)
  have nB := Lib.hid (Bx.go B.out hb)
  clear hb
  clear HB RA RB K1 K2 A B
  have HB := nHB
  have RA := nRA
  have RB := nRB
  have K1 := nK1
  have K2 := nK2
  have A := nA
  have B := nB
  clear nHB nRA nRB nK1 nK2 nA nB
  obtain ⟨⟨A3, c3⟩, rfl, hk⟩ := how.keyE
  obtain ⟨ab, ao, hA, -, -⟩ := hk.2.2 (by rw [HL3.out]; have := HD0.out; omega)
  subst hA
  have j7 : (N3 : Int) ≤ (c3 : Int) := by have h5 : lw.length ≤ c3 := hk.1; rw [HL3.out] at h5; omega
  have j8 : (N1 : Int) ≤ (c3 : Int) := by omega
  have j9 : ¬ c3 = N1 := by have := HD0.out; omega
  have K3 := Lib.hid hk
  clear hk how
  dsimp only
  rw [HL3.out]
  have OB := B
  have LB := Lib.hid HB.out.size
  have LTA := Lib.hid (show W.heap.size < w8.heap.size from Bx.lt A.out)
  have LTB := Lib.hid (show (W.heap.size + 1) < w8.heap.size from Bx.lt B.out)
  obtain ⟨V8, hV8⟩ : ∃ V, V = w8.alloc (.cells (envC y b) 25) := ⟨_, rfl⟩
  have ha := (Below.refl w8.heap.size w8).alloc (Nat.le_refl _) (.cells (envC y b) 25)
  have hg := heap_alloc_new w8 (.cells (envC y b) 25)
  have nHB := Lib.hid (HB.out.alloc HB.out.size (.cells (envC y b) 25))
  rw [← hV8] at ha hg nHB
  have nRA := Lib.hid (RA.out.go ha)
  have nRB := Lib.hid (RB.out.go ha)
  have nK1 := Lib.hid (K1.out.go ha)
  have nK2 := Lib.hid (K2.out.go ha)
  have nK3 := Lib.hid (K3.out.go ha)
  have nA := Lib.hid (Bx.go A.out ha)
  have nB := Lib.hid (Bx.go B.out ha)
  obtain ⟨c, hc⟩ : ∃ g, g = w8.heap.size := ⟨_, rfl⟩
  rw [← hc] at hg
  have HXC := Lib.hid hc
  have C := Lib.hid hg
  have HV := Lib.hid hV8
  clear ha hg hV8 hc
  clear HB RA RB K1 K2 K3 A B
  have HB := nHB
  have RA := nRA
  have RB := nRB
  have K1 := nK1
  have K2 := nK2
  have K3 := nK3
  have A := nA
  have B := nB
  clear nHB nRA nRB nK1 nK2 nK3 nA nB
  have LEC := Lib.hid (show W.heap.size ≤ c from by rw [HXC.out]; exact LB.out)
  have NEAC := Lib.hid (show W.heap.size ≠ c from by have h1 := LTA.out; rw [HXC.out]; omega)
  have NECA := Lib.hid (NEAC.out.symm)
  have NEBC := Lib.hid (show (W.heap.size + 1) ≠ c from by have h1 := LTB.out; rw [HXC.out]; omega)
  have NECB := Lib.hid (NEBC.out.symm)
  clear LB LTA LTB
  go_upto_region 8 with (first | (refine loadX (.tmp 3) (W.heap.size + 1) (envC y b) tyEnv rfl OB.out rfl rfl rfl ?_) | (refine storeX (.tmp 12) (.tmp 48) _ (envC y b) _ tyEnv rfl (envC_one _ _) (heap_alloc_new _ _) rfl rfl rfl rfl rfl ?_; rw [setRowG_fold]))
  rw [← HV.out]
  (try rw [← HXC.out])
  clear HV HXC
  clear OB
  have a7 := Bx.cell A.out (envC_7 x a)
  have c7 := Bx.cell C.out (envC_7 y b)
  have f7 := Bx.thaw C.out 7
  go_upto_region 9 with (fail)
  obtain ⟨Y, hY⟩ : ∃ U, U = V8.setCell ⟨c, 7, none⟩ (.slice x.tag.1 a.tag.length x.tag.2) := ⟨_, rfl⟩
  have hC2 : Bx Y c 25 (envC ⟨y.body, x.tag⟩ { b with tag := a.tag }) := by rw [hY]; exact Bx.set (j := 7) C.out rfl
  have nA : Hid (Bx Y W.heap.size 25 (envC x a)) := Lib.hid (by rw [hY]; exact Bx.setOther A.out NEAC.out _ _)
  have nB : Hid (Bx Y (W.heap.size + 1) 25 (envC y b)) := Lib.hid (by rw [hY]; exact Bx.setOther B.out NEBC.out _ _)
  have nRA := Lib.hid (show EnvR Y x a from by rw [hY]; exact RA.out.put1 C.out (no8_env _ _) _ _)
  have nRB := Lib.hid (show EnvR Y y b from by rw [hY]; exact RB.out.put1 C.out (no8_env _ _) _ _)
  have nK1 := Lib.hid (show KeyE Y y1 li from by rw [hY]; exact K1.out.put1 C.out (no8_env _ _) _ _)
  have nK2 := Lib.hid (show KeyE Y y2 lj from by rw [hY]; exact K2.out.put1 C.out (no8_env _ _) _ _)
  have nK3 := Lib.hid (show KeyE Y (some ⟨ab, ao, none⟩, c3) lw from by rw [hY]; exact K3.out.put1 C.out (no8_env _ _) _ _)
  have nHB := Lib.hid (show Below W.heap.size W Y from by rw [hY]; exact Below.setCell (p := ⟨c, 7, none⟩) HB.out LEC.out _)
  have nC := Lib.hid hC2
  rw [← hY]
  clear hY hC2 a7 c7 f7
  clear HB RA RB K1 K2 K3 A B C
  have HB := nHB
  have RA := nRA
  have RB := nRB
  have K1 := nK1
  have K2 := nK2
  have K3 := nK3
  have A := nA
  have B := nB
  have C := nC
  clear nHB nRA nRB nK1 nK2 nK3 nA nB nC
  have RC := Lib.hid (show EnvR Y ⟨y.body, x.tag⟩ { b with tag := a.tag } from ⟨RB.out.1, RA.out.2⟩)
  have a6 : Y.cell? ⟨W.heap.size, 6, none⟩ = some (.slice x.body.1 la x.body.2) := by rw [← HLA.out]; exact Bx.cell A.out (envC_6 x a)
  go_upto_region 11 with (fail)
  clear a6
  have S4 := Lib.hid (fun w (h : KeyE w (some ⟨ab, ao, none⟩, c3) lw) (k : KeyE w x.tag a.tag) => (show Calls Try.prog 15 #[.slice (some ⟨ab, ao + N1, none⟩) (N3 - N1) (c3 - N1), .slice x.tag.1 16 x.tag.2] w fun e W' => e = .returned (.bool true) ∧ w = W' from by
      have h6 := h.drop N1 (by rw [HL3.out]; have := HD0.out; omega)
      rw [HT2.out] at h6
      have h7 := S3.out (some ⟨ab, ao + N1, none⟩, c3 - N1) x.tag w h6 k
      rw [HD.out]
      exact h7))
  have BB0 := Lib.hid ((Below.refl Y.heap.size Y).drew)
  have KEEP := Lib.hid (fun w' (hW : Below Y.heap.size Y w') => (show Below Y.heap.size Y w' from hW))
  refine wp_region_noPanic ?_
  refine wp_region_held_drew (S := fun w' => Below Y.heap.size Y w') (by kernel_rfl) (KEEP.out _ BB0.out) (fun hHeld => ?_)
  obtain ⟨wz0, hwz⟩ : ∃ x, x = Y.drew := ⟨_, rfl⟩
  rw [← hwz] at BB0 hHeld ⊢
  clear hwz
  refine wpAnyH_take (i := 0) (oi := ?_) (v := ?_) ?_ (by kernel_rfl) (by decide +kernel) (by decide +kernel) (fun _ _ _ h => h) ?_ (by assumption) ?_
  rotate_left 2
  focus (simp only [List.getElem?_toArray, List.getElem?_cons_zero] <;> rfl)
  · refine Or.inl ⟨by rfl, ?_⟩
    intro w hSw
    (try dsimp only at hSw)
    go_simp <;> with_reducible rfl
  (try simp only [Act.put, List.setIfInBounds_toArray, List.set_cons_zero, List.set_cons_succ])
  refine wpAnyH_take (i := 1) (oi := ?_) (v := ?_) ?_ (by kernel_rfl) (by decide +kernel) (by decide +kernel) (fun _ _ _ h => h) ?_ (by assumption) ?_
  rotate_left 2
  focus (simp only [List.getElem?_toArray, List.getElem?_cons_succ, List.getElem?_cons_zero] <;> rfl)
  · refine Or.inl ⟨by rfl, ?_⟩
    intro w hSw
    (try dsimp only at hSw)
    go_simp <;> with_reducible rfl
  (try simp only [Act.put, List.setIfInBounds_toArray, List.set_cons_zero, List.set_cons_succ])
  refine wpAnyH_take (i := 2) (oi := ?_) (v := ?_) ?_ (by kernel_rfl) (by decide +kernel) (by decide +kernel) (fun _ _ _ h => h) ?_ (by assumption) ?_
  rotate_left 2
  focus (simp only [List.getElem?_toArray, List.getElem?_cons_succ, List.getElem?_cons_zero] <;> rfl)
  · refine Or.inl ⟨by rfl, ?_⟩
    intro w hSw
    (try dsimp only at hSw)
    go_simp <;> with_reducible rfl
  (try simp only [Act.put, List.setIfInBounds_toArray, List.set_cons_zero, List.set_cons_succ])
  refine wpAnyH_take (i := 3) (oi := ?_) (v := ?_) ?_ (by kernel_rfl) (by decide +kernel) (by decide +kernel) (fun _ _ _ h => h) ?_ (by assumption) ?_
  rotate_left 2
  focus (simp only [List.getElem?_toArray, List.getElem?_cons_succ, List.getElem?_cons_zero] <;> rfl)
  · refine Or.inl ⟨by rfl, ?_⟩
    intro w hSw
    (try dsimp only at hSw)
    go_simp <;> with_reducible rfl
  (try simp only [Act.put, List.setIfInBounds_toArray, List.set_cons_zero, List.set_cons_succ])
  refine wpAnyH_take (i := 5) (oi := ?_) (v := .agg (envC x a)) ?_ (by kernel_rfl) (by decide +kernel) (by decide +kernel) (fun _ _ _ h => h) ?_ (by assumption) ?_
  rotate_left 1
  focus (simp only [List.getElem?_toArray, List.getElem?_cons_succ, List.getElem?_cons_zero] <;> rfl)
  · refine yieldsX (T := 25) ?_ (.tmp 2) ?_ ⟨W.heap.size, 0, none⟩ ?_ (envC x a) ?_
    focus rfl
    focus exact rfl
    focus exact rfl
    exact fun w hSw => run_loadX tyEnv rfl (Bx.go A.out hSw)
  (try simp only [Act.put, List.setIfInBounds_toArray, List.set_cons_zero, List.set_cons_succ])
  refine wpAnyH_take (i := 6) (oi := ?_) (v := .agg (envC ⟨y.body, x.tag⟩ { b with tag := a.tag })) ?_ (by kernel_rfl) (by decide +kernel) (by decide +kernel) (fun _ _ _ h => h) ?_ (by assumption) ?_
  rotate_left 1
  focus (simp only [List.getElem?_toArray, List.getElem?_cons_succ, List.getElem?_cons_zero] <;> rfl)
  · refine yieldsX (T := 25) ?_ (.tmp 12) ?_ ⟨c, 0, none⟩ ?_ (envC ⟨y.body, x.tag⟩ { b with tag := a.tag }) ?_
    focus rfl
    focus exact rfl
    focus exact rfl
    exact fun w hSw => run_loadX tyEnv rfl (Bx.go C.out hSw)
  (try simp only [Act.put, List.setIfInBounds_toArray, List.set_cons_zero, List.set_cons_succ])
  refine wpAnyH_ready (rs := [4]) (by decide +kernel) (by simp) ?_
  refine AllReadyH.cons rfl (fun K hK => ?_) AllReadyH.nil
  go_simp
  go_at_call 15
  refine (S1.out y1 y2 _ (K1.out.go BB0.out) (K2.out.go BB0.out)).mono ?_
  rintro e wz1 ⟨rfl, hw⟩
  obtain rfl := hw
  refine hK.out _ _ (KEEP.out _ BB0.out) (fun hHeld => ?_)
  clear hK K
  (try simp only [Act.put, List.setIfInBounds_toArray, List.set_cons_zero, List.set_cons_succ])
  refine wpAnyH_ready (rs := [7]) (by decide +kernel) (by simp) ?_
  refine AllReadyH.cons rfl (fun K hK => ?_) AllReadyH.nil
  go_simp
  go_at_call 19
  refine (DS.out x ⟨y.body, x.tag⟩ _ (RA.out.go BB0.out) (RC.out.go BB0.out)).mono ?_
  rintro e wz2 ⟨rfl, hb⟩
  have BB2 := Lib.hid (belG BB0.out hb BB0.out.size)
  clear hb
  refine hK.out _ _ (KEEP.out _ BB2.out) (fun hHeld => ?_)
  clear hK K
  (try simp only [Act.put, List.setIfInBounds_toArray, List.set_cons_zero, List.set_cons_succ])
  refine wpAnyH_take (i := 8) (oi := ?_) (v := ?_) ?_ (by kernel_rfl) (by decide +kernel) (by decide +kernel) (fun _ _ _ h => h) ?_ (by assumption) ?_
  rotate_left 2
  focus (simp only [List.getElem?_toArray, List.getElem?_cons_succ, List.getElem?_cons_zero] <;> rfl)
  · refine Or.inl ⟨by rfl, ?_⟩
    intro w hSw
    (try dsimp only at hSw)
    go_simp <;> with_reducible rfl
  (try simp only [Act.put, List.setIfInBounds_toArray, List.set_cons_zero, List.set_cons_succ])
  refine wpAnyH_take (i := 9) (oi := ?_) (v := ?_) ?_ (by kernel_rfl) (by decide +kernel) (by decide +kernel) (fun _ _ _ h => h) ?_ (by assumption) ?_
  rotate_left 2
  focus (simp only [List.getElem?_toArray, List.getElem?_cons_succ, List.getElem?_cons_zero] <;> rfl)
  · refine Or.inl ⟨by rfl, ?_⟩
    intro w hSw
    (try dsimp only at hSw)
    go_simp <;> with_reducible rfl
  (try simp only [Act.put, List.setIfInBounds_toArray, List.set_cons_zero, List.set_cons_succ])
  refine wpAnyH_take (i := 10) (oi := ?_) (v := ?_) ?_ (by kernel_rfl) (by decide +kernel) (by decide +kernel) (fun _ _ _ h => h) ?_ (by assumption) ?_
  rotate_left 2
  focus (simp only [List.getElem?_toArray, List.getElem?_cons_succ, List.getElem?_cons_zero] <;> rfl)
  · refine Or.inl ⟨by rfl, ?_⟩
    intro w hSw
    (try dsimp only at hSw)
    go_simp <;> with_reducible rfl
  (try simp only [Act.put, List.setIfInBounds_toArray, List.set_cons_zero, List.set_cons_succ])
  refine wpAnyH_take (i := 11) (oi := ?_) (v := ?_) ?_ (by kernel_rfl) (by decide +kernel) (by decide +kernel) (fun _ _ _ h => h) ?_ (by assumption) ?_
  rotate_left 2
  focus (simp only [List.getElem?_toArray, List.getElem?_cons_succ, List.getElem?_cons_zero] <;> rfl)
  · refine Or.inl ⟨by rfl, ?_⟩
    intro w hSw
    (try dsimp only at hSw)
    go_simp <;> with_reducible rfl
  (try simp only [Act.put, List.setIfInBounds_toArray, List.set_cons_zero, List.set_cons_succ])
  refine wpAnyH_take (i := 12) (oi := ?_) (v := ?_) ?_ (by kernel_rfl) (by decide +kernel) (by decide +kernel) (fun _ _ _ h => h) ?_ (by assumption) ?_
  rotate_left 2
  focus (simp only [List.getElem?_toArray, List.getElem?_cons_succ, List.getElem?_cons_zero] <;> rfl)
  · refine Or.inl ⟨by rfl, ?_⟩
    intro w hSw
    (try dsimp only at hSw)
    go_simp <;> with_reducible rfl
  (try simp only [Act.put, List.setIfInBounds_toArray, List.set_cons_zero, List.set_cons_succ])
  refine wpAnyH_take (i := 15) (oi := ?_) (v := ?_) ?_ (by kernel_rfl) (by decide +kernel) (by decide +kernel) (fun _ _ _ h => h) ?_ (by assumption) ?_
  rotate_left 2
  focus (simp only [List.getElem?_toArray, List.getElem?_cons_succ, List.getElem?_cons_zero] <;> rfl)
  · refine Or.inl ⟨by rfl, ?_⟩
    intro w hSw
    (try dsimp only at hSw)
    go_simp <;> with_reducible rfl
  (try simp only [Act.put, List.setIfInBounds_toArray, List.set_cons_zero, List.set_cons_succ])
  refine wpAnyH_take (i := 13) (oi := ?_) (v := ?_) ?_ (by kernel_rfl) (by decide +kernel) (by decide +kernel) (fun _ _ _ h => h) ?_ (by assumption) ?_
  rotate_left 2
  focus (simp only [List.getElem?_toArray, List.getElem?_cons_succ, List.getElem?_cons_zero] <;> rfl)
  · refine Or.inl ⟨by rfl, ?_⟩
    intro w hSw
    (try dsimp only at hSw)
    go_simp <;> with_reducible rfl
  (try simp only [Act.put, List.setIfInBounds_toArray, List.set_cons_zero, List.set_cons_succ])
  refine wpAnyH_take (i := 14) (oi := ?_) (v := ?_) ?_ (by kernel_rfl) (by decide +kernel) (by decide +kernel) (fun _ _ _ h => h) ?_ (by assumption) ?_
  rotate_left 2
  focus (simp only [List.getElem?_toArray, List.getElem?_cons_succ, List.getElem?_cons_zero] <;> rfl)
  · refine Or.inl ⟨by rfl, ?_⟩
    intro w hSw
    (try dsimp only at hSw)
    go_simp <;> with_reducible rfl
  (try simp only [Act.put, List.setIfInBounds_toArray, List.set_cons_zero, List.set_cons_succ])
  refine wpAnyH_ready (rs := [16]) (by decide +kernel) (by simp) ?_
  refine AllReadyH.cons rfl (fun K hK => ?_) AllReadyH.nil
  go_simp
  go_at_call 15
  refine (S2.out (some ⟨ab, ao, none⟩, c3) y1 _ (by have h5 := (K3.out.go BB2.out).take N1; rw [HT1.out] at h5; exact h5) (K1.out.go BB2.out)).mono ?_
  rintro e wz3 ⟨rfl, hw⟩
  obtain rfl := hw
  refine hK.out _ _ (KEEP.out _ BB2.out) (fun hHeld => ?_)
  clear hK K
  (try simp only [Act.put, List.setIfInBounds_toArray, List.set_cons_zero, List.set_cons_succ])
  refine wpAnyH_take (i := 17) (oi := ?_) (v := ?_) ?_ (by kernel_rfl) (by decide +kernel) (by decide +kernel) (fun _ _ _ h => h) ?_ (by assumption) ?_
  rotate_left 2
  focus (simp only [List.getElem?_toArray, List.getElem?_cons_succ, List.getElem?_cons_zero] <;> rfl)
  · refine Or.inl ⟨by rfl, ?_⟩
    intro w hSw
    (try dsimp only at hSw)
    go_simp <;> with_reducible rfl
  (try simp only [Act.put, List.setIfInBounds_toArray, List.set_cons_zero, List.set_cons_succ])
  refine wpAnyH_take (i := 18) (oi := ?_) (v := ?_) ?_ (by kernel_rfl) (by decide +kernel) (by decide +kernel) (fun _ _ _ h => h) ?_ (by assumption) ?_
  rotate_left 2
  focus (simp only [List.getElem?_toArray, List.getElem?_cons_succ, List.getElem?_cons_zero] <;> rfl)
  · refine Or.inl ⟨by rfl, ?_⟩
    intro w hSw
    (try dsimp only at hSw)
    go_simp <;> with_reducible rfl
  (try simp only [Act.put, List.setIfInBounds_toArray, List.set_cons_zero, List.set_cons_succ])
  refine wpAnyH_take (i := 19) (oi := ?_) (v := ?_) ?_ (by kernel_rfl) (by decide +kernel) (by decide +kernel) (fun _ _ _ h => h) ?_ (by assumption) ?_
  rotate_left 2
  focus (simp only [List.getElem?_toArray, List.getElem?_cons_succ, List.getElem?_cons_zero] <;> rfl)
  · refine Or.inl ⟨by rfl, ?_⟩
    intro w hSw
    (try dsimp only at hSw)
    go_simp <;> with_reducible rfl
  (try simp only [Act.put, List.setIfInBounds_toArray, List.set_cons_zero, List.set_cons_succ])
  refine wpAnyH_take (i := 20) (oi := ?_) (v := ?_) ?_ (by kernel_rfl) (by decide +kernel) (by decide +kernel) (fun _ _ _ h => h) ?_ (by assumption) ?_
  rotate_left 2
  focus (simp only [List.getElem?_toArray, List.getElem?_cons_succ, List.getElem?_cons_zero] <;> rfl)
  · refine Or.inl ⟨by rfl, ?_⟩
    intro w hSw
    (try dsimp only at hSw)
    go_simp <;> with_reducible rfl
  (try simp only [Act.put, List.setIfInBounds_toArray, List.set_cons_zero, List.set_cons_succ])
  refine wpAnyH_take (i := 23) (oi := ?_) (v := ?_) ?_ (by kernel_rfl) (by decide +kernel) (by decide +kernel) (fun _ _ _ h => h) ?_ (by assumption) ?_
  rotate_left 2
  focus (simp only [List.getElem?_toArray, List.getElem?_cons_succ, List.getElem?_cons_zero] <;> rfl)
  · refine Or.inl ⟨by rfl, ?_⟩
    intro w hSw
    (try dsimp only at hSw)
    go_simp <;> with_reducible rfl
  (try simp only [Act.put, List.setIfInBounds_toArray, List.set_cons_zero, List.set_cons_succ])
  refine wpAnyH_take (i := 21) (oi := ?_) (v := ?_) ?_ (by kernel_rfl) (by decide +kernel) (by decide +kernel) (fun _ _ _ h => h) ?_ (by assumption) ?_
  rotate_left 2
  focus (simp only [List.getElem?_toArray, List.getElem?_cons_succ, List.getElem?_cons_zero] <;> rfl)
  · refine Or.inl ⟨by rfl, ?_⟩
    intro w hSw
    (try dsimp only at hSw)
    go_simp <;> with_reducible rfl
  (try simp only [Act.put, List.setIfInBounds_toArray, List.set_cons_zero, List.set_cons_succ])
  refine wpAnyH_take (i := 24) (oi := ?_) (v := ?_) ?_ (by kernel_rfl) (by decide +kernel) (by decide +kernel) (fun _ _ _ h => h) ?_ (by assumption) ?_
  rotate_left 2
  focus (simp only [List.getElem?_toArray, List.getElem?_cons_succ, List.getElem?_cons_zero] <;> rfl)
  · refine Or.inl ⟨by rfl, ?_⟩
    intro w hSw
    have hcell := (Bx.go A.out hSw).cell ((show (envC x a)[7]? = some (.slice x.tag.1 16 x.tag.2) from by rw [← HTA.out]; rfl))
    go_simp <;> with_reducible rfl
  (try simp only [Act.put, List.setIfInBounds_toArray, List.set_cons_zero, List.set_cons_succ])
  refine wpAnyH_take (i := 22) (oi := ?_) (v := ?_) ?_ (by kernel_rfl) (by decide +kernel) (by decide +kernel) (fun _ _ _ h => h) ?_ (by assumption) ?_
  rotate_left 2
  focus (simp only [List.getElem?_toArray, List.getElem?_cons_succ, List.getElem?_cons_zero] <;> rfl)
  · refine Or.inl ⟨by rfl, ?_⟩
    intro w hSw
    (try dsimp only at hSw)
    go_simp <;> with_reducible rfl
  (try simp only [Act.put, List.setIfInBounds_toArray, List.set_cons_zero, List.set_cons_succ])
  refine wpAnyH_ready (rs := [25]) (by decide +kernel) (by simp) ?_
  refine AllReadyH.cons rfl (fun K hK => ?_) AllReadyH.nil
  go_simp
  go_at_call 15
  refine (S4.out _ (K3.out.go BB2.out) (RA.out.go BB2.out).2).mono ?_
  rintro e wz4 ⟨rfl, hw⟩
  obtain rfl := hw
  refine hK.out _ _ (KEEP.out _ BB2.out) (fun hHeld => ?_)
  clear hK K
  (try simp only [Act.put, List.setIfInBounds_toArray, List.set_cons_zero, List.set_cons_succ])
  refine wpAnyH_take (i := 26) (oi := ?_) (v := ?_) ?_ (by kernel_rfl) (by decide +kernel) (by decide +kernel) (fun _ _ _ h => h) ?_ (by assumption) ?_
  rotate_left 2
  focus (simp only [List.getElem?_toArray, List.getElem?_cons_succ, List.getElem?_cons_zero] <;> rfl)
  · refine Or.inl ⟨by rfl, ?_⟩
    intro w hSw
    (try dsimp only at hSw)
    go_simp <;> with_reducible rfl
  (try simp only [Act.put, List.setIfInBounds_toArray, List.set_cons_zero, List.set_cons_succ])
  refine wpAnyH_take (i := 27) (oi := ?_) (v := ?_) ?_ (by kernel_rfl) (by decide +kernel) (by decide +kernel) (fun _ _ _ h => h) ?_ (by assumption) ?_
  rotate_left 2
  focus (simp only [List.getElem?_toArray, List.getElem?_cons_succ, List.getElem?_cons_zero] <;> rfl)
  · refine Or.inl ⟨by rfl, ?_⟩
    intro w hSw
    (try dsimp only at hSw)
    go_simp <;> with_reducible rfl
  (try simp only [Act.put, List.setIfInBounds_toArray, List.set_cons_zero, List.set_cons_succ])
  refine wpAnyH_done (by decide +kernel) ?_ _
  refine NoPanic.normal ?_
  clear KEEP
  go_wp2_with fail
  go_ret
  exact ⟨by first | rfl | (simp; done), belG HB.out BB2.out HB.out.size⟩
set_option maxRecDepth 100000 in
theorem envApart_walkI (x : We) (a : Ev) (y : We) (b : Ev) (W : World) (h64a : Ev64 a) (ha : EnvR W x a) (h64b : Ev64 b) (hb : EnvR W y b) :
    Calls Try.prog 6 #[.agg (envC x a), .agg (envC y b)] W fun e W' => e = .returned (.bool true) ∧ Below W.heap.size W W' := envApart_walk x y a b W h64a h64b ha hb
end Go.Proofs.Ytjkkceecagbjjaa
