
/- The document's answers (slot): Good, Right, Same, Few, New, Best. -/
import Derived.Test.YtfppcmhhbheaiaaDoorJ18
namespace Go.Proofs.YtfppcmhhbheaiaaDoor
open Go.RowKit

set_option maxRecDepth 100000 in
theorem sameB_any (x y : Wkb) (l k : List UInt8) (W : World) (hx : KeyB W x l) (hy : KeyB W y k) : Calls Tryd.prog 14 #[.slice x.1 l.length x.2, .slice y.1 k.length y.2] W fun e W' => e = .returned (.bool (decide (l = k))) ∧ W = W' := same_any x.1 y.1 l k x.2 y.2 _ _ W hx.2.2 hy.2.2
structure Wt where
  a : Wkb
  b : Wkb
def storC (x : Wt) (s : Sr) : Array Value := #[.slice x.a.1 s.a.length x.a.2, .slice x.b.1 s.b.length x.b.2]
set_option maxRecDepth 100000 in
theorem storC_one (x : Wt) (s : Sr) : (storC x s).all (·.oneCell') = true := by simp [storC, Value.oneCell']
set_option maxRecDepth 100000 in
theorem tyStore : Ty 24 2 := ⟨⟨_, Tryd.underlying24, rfl⟩, by kernel_rfl⟩
def StR (w : World) (x : Wt) (s : Sr) : Prop := KeyB w x.a s.a ∧ KeyB w x.b s.b
set_option maxRecDepth 100000 in
theorem StR.go {w w' : World} {x : Wt} {s : Sr} (k : StR w x s) (hb : Below w.heap.size w w') : StR w' x s := ⟨k.1.go hb, k.2.go hb⟩
set_option maxRecDepth 100000 in
theorem no8_stor (x : Wt) (s : Sr) : No8 (storC x s) := by
  intro v hv n
  simp only [storC, List.mem_cons, List.not_mem_nil, or_false] at hv
  rcases hv with rfl | rfl <;> intro h <;> cases h
set_option maxRecDepth 100000 in
theorem StR.setRow {w : World} {g : Nat} {T : TypeId} {C C' : Array Value} {x : Wt} {s : Sr} (k : StR w x s) (hg : Bx w g T C) (hn : No8 C) : StR (w.setRow g C') x s := ⟨k.1.setRow hg hn, k.2.setRow hg hn⟩
set_option maxRecDepth 100000 in
theorem StR.put1 {w : World} {g : Nat} {T : TypeId} {C : Array Value} {x : Wt} {s : Sr} (k : StR w x s) (hg : Bx w g T C) (hn : No8 C) (o : Nat) (v : Value) : StR (w.setCell ⟨g, o, none⟩ v) x s := ⟨k.1.put1 hg hn o v, k.2.put1 hg hn o v⟩
set_option maxRecDepth 100000 in
theorem storC_a (x : Wt) (s : Sr) : (storC x s)[0]? = some (.slice x.a.1 s.a.length x.a.2) := rfl
set_option maxRecDepth 100000 in
theorem storC_b (x : Wt) (s : Sr) : (storC x s)[1]? = some (.slice x.b.1 s.b.length x.b.2) := rfl
abbrev BxS (w : World) (g : Nat) (x : Wt) (s : Sr) : Prop := Bx w g 24 (storC x s)
def fewS (s : Sr) : Prop := s.a.length ≤ 100 ∧ s.b.length ≤ 100
instance (s : Sr) : Decidable (fewS s) := by unfold fewS; infer_instance
set_option maxRecDepth 100000 in
theorem bxS1 (W : World) (x : Wt) (s : Sr) : ∃ V C, C = storC x s ∧ V = W.alloc (.cells C 24) ∧ Below W.heap.size W V ∧ BxS V W.heap.size x s := by
  obtain ⟨V, h1, h2, h3⟩ := bx1 W 24 (storC x s)
  exact ⟨V, _, rfl, h1, h2, h3⟩
set_option maxRecDepth 100000 in
theorem good_len {b : List UInt8} (h : b.length ≠ 16) : goodS b = (0, false) := by
  unfold goodS
  rw [if_neg (fun hg => h (by rw [hg.2, recL_len]))]
set_option maxRecDepth 100000 in
set_option maxHeartbeats 4000000 in
theorem good13_any (x : Wkb) (b : List UInt8) (W : World) (_hl : b.length ≤ 100000) (hk : KeyB W x b) : Calls Tryd.prog 12 #[.slice x.1 b.length x.2] W fun e W' => e = .returned (.tuple #[.int .i64 (goodS b).1, .bool (goodS b).2]) ∧ Below W.heap.size W W' := by
  by_cases h16 : b.length = 16
  case neg =>
    have HI := Lib.hid (good_len h16)
    have b0 : ((b.length : Int) == 16) = false := beq_eq_false_iff_ne.2 (by omega)
    have b1 : ((b.length : Int) != 16) = true := by rw [bne, b0]; rfl
    generalize b.length = n at *
    clear h16 _hl hk
    go_enter Tryd.func12, Tryd.ntmps12
    go_wp2_with fail
    go_ret2
    exact ⟨by rw [HI.out]; rfl, Below.refl _ _⟩
  have CT := Lib.hid (refTakeBig_any x.1 b x.2 0 8 W (by decide) (by decide) (by omega) (by omega) hk.1 hk.2.2)
  unfold takeBigV at CT
  rw [List.drop_zero] at CT
  by_cases hn : numL (b.take 8) ≤ 9223372036854775807
  case neg =>
    have HI := Lib.hid (show goodS b = (0, false) from by unfold goodS; rw [if_neg (fun hg => by have h1 := hg.1.2; unfold numS at h1; omega)])
    rw [if_neg hn, h16] at CT
    rw [h16]
    clear hn h16 _hl hk
    go_enter Tryd.func12, Tryd.ntmps12
    go_wp2_with fail
    refine CT.out.mono ?_
    rintro e w1 ⟨rfl, hw⟩
    obtain rfl := hw
    go_wp2_with fail
    go_ret2
    exact ⟨by rw [HI.out]; rfl, Below.refl _ _⟩
  rw [if_pos hn] at CT
  have CR := Lib.hid (fun w => record13_any (numS b) w)
  have hns : ((numL (b.take 8) : Nat) : Int) = numS b := rfl
  rw [hns, h16] at CT
  have RB := Lib.hid hk
  by_cases he : EpS (numS b)
  case neg =>
    have HI := Lib.hid (show goodS b = (0, false) from by unfold goodS; rw [if_neg (fun hg => he hg.1)])
    rw [show recordS (numS b) = ([], 1) from by unfold recordS; rw [if_neg he]] at CR
    rw [h16]
    generalize numS b = n at *
    clear hns hn he h16 _hl hk
    go_enter Tryd.func12, Tryd.ntmps12
    go_wp2_with fail
    refine CT.out.mono ?_
    rintro e w1 ⟨rfl, hw⟩
    obtain rfl := hw
    go_wp2_with fail
    refine (CR.out _).mono ?_
    rintro e w1 ⟨⟨v1, rfl, how⟩, hb⟩
    have HB1 := Lib.hid hb
    clear how hb
    go_wp2_with fail
    go_ret2
    exact ⟨by rw [HI.out]; rfl, HB1.out⟩
  rw [show recordS (numS b) = (recL (numS b), 0) from by unfold recordS; rw [if_pos he]] at CR
  have CS := Lib.hid (fun u w h k => sameB_any u x (recL (numS b)) b w h k)
  rw [recL_len, h16] at CS
  have HG := Lib.hid (show goodS b = if recL (numS b) = b then (numS b, true) else (0, false) from by
    unfold goodS
    by_cases h5 : recL (numS b) = b
    · rw [if_pos ⟨he, h5.symm⟩, if_pos h5]
    · rw [if_neg (fun hg => h5 hg.2.symm), if_neg h5])
  have HL := Lib.hid (recL_len (numS b))
  rw [h16]
  by_cases h5 : recL (numS b) = b
  case pos =>
    rw [decide_eq_true h5] at CS
    have HI := Lib.hid (show goodS b = (numS b, true) from by rw [HG.out, if_pos h5])
    generalize numS b = n at *
    clear hns hn he h16 _hl hk h5 HG
    go_enter Tryd.func12, Tryd.ntmps12
    go_wp2_with fail
    refine CT.out.mono ?_
    rintro e w1 ⟨rfl, hw⟩
    obtain rfl := hw
    go_wp2_with fail
    refine (CR.out _).mono ?_
    rintro e w1 ⟨⟨v1, rfl, how⟩, hb⟩
    have HB1 := Lib.hid hb
    have RB1 := Lib.hid (RB.out.go hb)
    obtain ⟨y1, rfl, hk⟩ := how.keyB
    have K1 := Lib.hid hk
    clear how hb hk
    rw [HL.out]
    go_wp2_with fail
    refine (CS.out y1 _ K1.out RB1.out).mono ?_
    rintro e w2 ⟨rfl, hw⟩
    obtain rfl := hw
    go_wp2_with fail
    go_ret2
    exact ⟨by rw [HI.out]; rfl, HB1.out⟩
  case neg =>
    rw [decide_eq_false h5] at CS
    have HI := Lib.hid (show goodS b = (0, false) from by rw [HG.out, if_neg h5])
    generalize numS b = n at *
    clear hns hn he h16 _hl hk h5 HG
    go_enter Tryd.func12, Tryd.ntmps12
    go_wp2_with fail
    refine CT.out.mono ?_
    rintro e w1 ⟨rfl, hw⟩
    obtain rfl := hw
    go_wp2_with fail
    refine (CR.out _).mono ?_
    rintro e w1 ⟨⟨v1, rfl, how⟩, hb⟩
    have HB1 := Lib.hid hb
    have RB1 := Lib.hid (RB.out.go hb)
    obtain ⟨y1, rfl, hk⟩ := how.keyB
    have K1 := Lib.hid hk
    clear how hb hk
    rw [HL.out]
    go_wp2_with fail
    refine (CS.out y1 _ K1.out RB1.out).mono ?_
    rintro e w2 ⟨rfl, hw⟩
    obtain rfl := hw
    go_wp2_with fail
    go_ret2
    exact ⟨by rw [HI.out]; rfl, HB1.out⟩
set_option maxRecDepth 100000 in
set_option maxHeartbeats 4000000 in
theorem right13_any (x : Wt) (s : Sr) (W : World) : Calls Tryd.prog 13 #[.agg (storC x s)] W fun e W' => e = .returned (.bool (decide (RightS s))) ∧ Below W.heap.size W W' := by
  obtain ⟨V, C, hC, hV, hb, hg⟩ := bxS1 W x s
  have x0 := hg.cell (storC_a x s)
  have x1 := hg.cell (storC_b x s)
  have HB := Lib.hid hb
  have HV := Lib.hid hV
  rw [← hC]
  rw [hV] at x0 x1
  have HD := Lib.hid (show decide (RightS s) = (decide (s.a.length = 16) && decide (s.b.length = 16)) from by rw [Bool.eq_iff_iff]; simp only [Bool.and_eq_true, decide_eq_true_eq]; exact Iff.rfl)
  generalize s.a.length = n at *
  generalize s.b.length = m at *
  clear hC hV hb hg
  by_cases h1 : n = 16
  · by_cases h2 : m = 16
    · rw [decide_eq_true h1, decide_eq_true h2] at HD
      have e1 : ((n : Int) == 16) = true := beq_iff_eq.2 (by omega)
      have e2 : ((m : Int) == 16) = true := beq_iff_eq.2 (by omega)
      clear h1 h2
      go_enter Tryd.func13, Tryd.ntmps13
      go_wp2_with fail
      go_ret
      exact ⟨by rw [HD.out]; first | rfl | (simp; done) | (simp; omega) | (simp [*]; done), by rw [← HV.out]; exact HB.out⟩
    · rw [decide_eq_true h1, decide_eq_false h2] at HD
      have e1 : ((n : Int) == 16) = true := beq_iff_eq.2 (by omega)
      have e2 : ((m : Int) == 16) = false := beq_eq_false_iff_ne.2 (by omega)
      clear h1 h2
      go_enter Tryd.func13, Tryd.ntmps13
      go_wp2_with fail
      go_ret
      exact ⟨by rw [HD.out]; first | rfl | (simp; done) | (simp; omega) | (simp [*]; done), by rw [← HV.out]; exact HB.out⟩
  · rw [decide_eq_false h1] at HD
    have e1 : ((n : Int) == 16) = false := beq_eq_false_iff_ne.2 (by omega)
    clear h1
    go_enter Tryd.func13, Tryd.ntmps13
    go_wp2_with fail
    go_ret
    exact ⟨by rw [HD.out]; first | rfl | (simp; done) | (simp; omega) | (simp [*]; done), by rw [← HV.out]; exact HB.out⟩
set_option maxRecDepth 100000 in
set_option maxHeartbeats 4000000 in
theorem few13_any (x : Wt) (s : Sr) (W : World) : Calls Tryd.prog 8 #[.agg (storC x s)] W fun e W' => e = .returned (.bool (decide (fewS s))) ∧ Below W.heap.size W W' := by
  obtain ⟨V, C, hC, hV, hb, hg⟩ := bxS1 W x s
  have x0 := hg.cell (storC_a x s)
  have x1 := hg.cell (storC_b x s)
  have HB := Lib.hid hb
  have HV := Lib.hid hV
  rw [← hC]
  rw [hV] at x0 x1
  have HD := Lib.hid (show decide (fewS s) = (decide (s.a.length ≤ 100) && decide (s.b.length ≤ 100)) from by rw [Bool.eq_iff_iff]; simp only [Bool.and_eq_true, decide_eq_true_eq]; exact Iff.rfl)
  generalize s.a.length = n at *
  generalize s.b.length = m at *
  clear hC hV hb hg
  by_cases h1 : n ≤ 100
  · by_cases h2 : m ≤ 100
    · rw [decide_eq_true h1, decide_eq_true h2] at HD
      have e1 : (n : Int) ≤ 100 := by omega
      have e2 : (m : Int) ≤ 100 := by omega
      clear h1 h2
      go_enter Tryd.func8, Tryd.ntmps8
      go_wp2_with fail
      go_ret
      exact ⟨by rw [HD.out]; first | rfl | (simp; done) | (simp; omega) | (simp [*]; done), by rw [← HV.out]; exact HB.out⟩
    · rw [decide_eq_true h1, decide_eq_false h2] at HD
      have e1 : (n : Int) ≤ 100 := by omega
      have e2 : ¬ (m : Int) ≤ 100 := by omega
      clear h1 h2
      go_enter Tryd.func8, Tryd.ntmps8
      go_wp2_with fail
      go_ret
      exact ⟨by rw [HD.out]; first | rfl | (simp; done) | (simp; omega) | (simp [*]; done), by rw [← HV.out]; exact HB.out⟩
  · rw [decide_eq_false h1] at HD
    have e1 : ¬ (n : Int) ≤ 100 := by omega
    clear h1
    go_enter Tryd.func8, Tryd.ntmps8
    go_wp2_with fail
    go_ret
    exact ⟨by rw [HD.out]; first | rfl | (simp; done) | (simp; omega) | (simp [*]; done), by rw [← HV.out]; exact HB.out⟩
set_option maxRecDepth 100000 in
set_option maxHeartbeats 4000000 in
theorem same13_any (x y : Wt) (s t : Sr) (W : World) (hx : StR W x s) (hy : StR W y t) : Calls Tryd.prog 15 #[.agg (storC x s), .agg (storC y t)] W fun e W' => e = .returned (.bool (decide (s = t))) ∧ Below W.heap.size W W' := by
  obtain ⟨V, hV, hb, hg, hj, -⟩ := bx2 W 24 24 (storC x s) (storC y t)
  have x0 := hg.cell (storC_a x s)
  have x1 := hg.cell (storC_b x s)
  have y0 := hj.cell (storC_a y t)
  have y1 := hj.cell (storC_b y t)
  have HB := Lib.hid hb
  have HV := Lib.hid hV
  have C1 := Lib.hid (sameB_any x.a y.a s.a t.a V (hx.go hb).1 (hy.go hb).1)
  have C2 := Lib.hid (sameB_any x.b y.b s.b t.b V (hx.go hb).2 (hy.go hb).2)
  have HD := Lib.hid (show decide (s = t) = (decide (s.a = t.a) && decide (s.b = t.b)) from by
    rw [Bool.eq_iff_iff]
    simp only [Bool.and_eq_true, decide_eq_true_eq]
    exact ⟨fun h => by rw [h]; exact ⟨rfl, rfl⟩, fun h => Sr.ext' h.1 h.2⟩)
  generalize decide (s = t) = D at *
  generalize decide (s.a = t.a) = p at *
  generalize decide (s.b = t.b) = q at *
  generalize storC x s = CX at *
  generalize storC y t = CY at *
  clear hb hV hg hj hx hy
  go_enter Tryd.func15, Tryd.ntmps15
  go_upto_region 1 with (fail)
  rw [← HV.out]
  clear HV
  go_wp2_with fail
  refine C1.out.mono ?_
  rintro e w1 ⟨rfl, hw⟩
  obtain rfl := hw
  cases p with
  | false =>
    go_wp2_with fail
    go_ret
    exact ⟨by rw [HD.out]; rfl, HB.out⟩
  | true =>
    go_wp2_with fail
    refine C2.out.mono ?_
    rintro e w1 ⟨rfl, hw⟩
    obtain rfl := hw
    go_wp2_with fail
    go_ret
    exact ⟨by rw [HD.out]; first | rfl | (simp; done), HB.out⟩
set_option maxRecDepth 100000 in
set_option maxHeartbeats 4000000 in
theorem best13_any (x : Wt) (s : Sr) (W : World) (hs : s.a.length ≤ 100000 ∧ s.b.length ≤ 100000) (hx : StR W x s) : Calls Tryd.prog 21 #[.agg (storC x s)] W fun e W' => e = .returned (.tuple #[.int .i64 (bestS s).1, .int .i64 (bestS s).2.1, .bool (bestS s).2.2]) ∧ Below W.heap.size W W' := by
  obtain ⟨V, C, hC, hV, hb, hg⟩ := bxS1 W x s
  have x0 := hg.cell (storC_a x s)
  have HB := Lib.hid hb
  have HV := Lib.hid hV
  have G := Lib.hid hg
  have RS := Lib.hid (hx.go hb)
  have CA := Lib.hid (fun w h => good13_any x.a s.a w hs.1 h)
  have CB := Lib.hid (fun w h => good13_any x.b s.b w hs.2 h)
  rw [← hC]
  have HD := Lib.hid (show bestS s = if (goodS s.b).2 = true ∧ ((goodS s.a).2 = false ∨ (goodS s.a).1 < (goodS s.b).1) then ((goodS s.b).1, 1, true) else ((goodS s.a).1, 0, (goodS s.a).2) from rfl)
  obtain ⟨ga, hga⟩ : ∃ n, n = (goodS s.a).1 := ⟨_, rfl⟩
  obtain ⟨gb, hgb⟩ : ∃ n, n = (goodS s.b).1 := ⟨_, rfl⟩
  obtain ⟨ia, hia⟩ : ∃ n, n = (goodS s.a).2 := ⟨_, rfl⟩
  obtain ⟨ib, hib⟩ : ∃ n, n = (goodS s.b).2 := ⟨_, rfl⟩
  rw [← hga, ← hia] at CA
  rw [← hgb, ← hib] at CB
  rw [← hga, ← hia, ← hgb, ← hib] at HD
  clear hC hV hb hg hx hs hga hgb hia hib x0
  go_enter Tryd.func21, Tryd.ntmps21
  go_upto_region 1 with (fail)
  rw [← HV.out]
  clear HV
  have x0 := G.out.cell (storC_a x s)
  go_wp2_with fail
  refine (CA.out _ RS.out.1).mono ?_
  rintro e w1 ⟨rfl, hb⟩
  have HB1 := Lib.hid (belG HB.out hb HB.out.size)
  have G1 := Lib.hid (Bx.go G.out hb)
  have RS1 := Lib.hid (RS.out.go hb)
  clear hb x0 HB G RS
  have x1 := G1.out.cell (storC_b x s)
  go_wp2_with fail
  refine (CB.out _ RS1.out.2).mono ?_
  rintro e w2 ⟨rfl, hb⟩
  have HB2 := Lib.hid (belG HB1.out hb HB1.out.size)
  clear hb x1 HB1 G1 RS1
  cases ib with
  | false =>
    have HI := Lib.hid (HD.out.trans (if_neg (fun h => by cases h.1)))
    clear HD
    go_wp2_with fail
    go_ret3
    exact ⟨by rw [HI.out]; rfl, HB2.out⟩
  | true =>
    cases ia with
    | false =>
      have HI := Lib.hid (HD.out.trans (if_pos ⟨rfl, .inl rfl⟩))
      clear HD
      go_wp2_with fail
      go_ret3
      exact ⟨by rw [HI.out]; rfl, HB2.out⟩
    | true =>
      by_cases hlt : ga < gb
      · have HI := Lib.hid (HD.out.trans (if_pos ⟨rfl, .inr hlt⟩))
        clear HD
        go_wp2_with fail
        go_ret3
        exact ⟨by rw [HI.out]; rfl, HB2.out⟩
      · have HI := Lib.hid (HD.out.trans (if_neg (fun h => by rcases h.2 with h2 | h2; cases h2; exact hlt h2)))
        clear HD
        go_wp2_with fail
        go_ret3
        exact ⟨by rw [HI.out]; rfl, HB2.out⟩
end Go.Proofs.YtfppcmhhbheaiaaDoor
