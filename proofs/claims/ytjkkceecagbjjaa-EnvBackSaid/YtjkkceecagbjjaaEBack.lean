
/- EnvBack's walk. -/
import Derived.Test.YtjkkceecagbjjaaEnS
namespace Go.Proofs.Ytjkkceecagbjjaa
open Go.RowKit

set_option maxRecDepth 100000 in
theorem write_of_read {b : List UInt8} (h : (readE b).2 = 0) : writeE (readE b).1 = (b, 0) := by
  unfold readE at h ⊢
  split at h
  · exact absurd h (by decide)
  · split at h
    · exact absurd h (by decide)
    · split at h
      · rename_i h1 h2 h3
        rw [if_neg h1, if_neg h2, if_pos h3]
        show writeE (envOf b) = (b, 0)
        unfold writeE
        rw [if_pos h3, write_read (by omega) h3]
      · exact absurd h (by decide)
set_option maxRecDepth 100000 in
set_option maxHeartbeats 4000000 in
theorem envBack_walk (x : We) (e : Ev) (A : Option Addr) (b : List UInt8) (c : Nat) (W : World) (h64 : Ev64 e) (he : EnvR W x e) (h1 : b.length ≤ c) (h2 : c ≤ 9223372036854775807) (h3 : Rd W W.heap.size A b) :
    Calls Try.prog 5 #[.agg (envC x e), .slice A b.length c] W fun e W' => e = .returned (.bool true) ∧ Below W.heap.size W W' := by
  have RE := Lib.hid he
  have KB := Lib.hid (show KeyE W (A, c) b from ⟨h1, h2, h3⟩)
  clear he h3
  have CF := Lib.hid (fun w => few12_any x e w)
  by_cases hfe : fewE e
  case neg =>
    rw [decide_eq_false hfe] at CF
    generalize b.length = n at *
    clear hfe h1 h2
    obtain ⟨V0, hV, hb, hg⟩ := bx1 W 25 (envC x e)
    have HB := Lib.hid hb
    have E := Lib.hid hg
    have HV := Lib.hid hV
    have nRE := Lib.hid (RE.out.go hb)
    clear RE
    have RE := nRE
    clear nRE
    have nKB := Lib.hid (KB.out.go hb)
    clear KB
    have KB := nKB
    clear nKB
    clear hb hg hV
    go_enter Try.func5, Try.ntmps5
    go_upto_region 1 with (fail)
    rw [← HV.out]
    clear HV
    go_wp2_with fail
    refine (shown12_any _).mono ?_
    rintro e w1 ⟨rfl, hb⟩
    have nHB := Lib.hid (belG HB.out hb HB.out.size)
    have nRE := Lib.hid (RE.out.go hb)
    have nKB := Lib.hid (KB.out.go hb)
    have nE := Lib.hid (Bx.go E.out hb)
    clear hb
    clear HB RE KB E
    have HB := nHB
    have RE := nRE
    have KB := nKB
    have E := nE
    clear nHB nRE nKB nE
    go_wp2_with (refine loadX (.tmp 2) W.heap.size (envC x e) tyEnv rfl E.out rfl rfl rfl ?_)
    refine (CF.out _).mono ?_
    rintro e w2 ⟨rfl, hb⟩
    have nHB := Lib.hid (belG HB.out hb HB.out.size)
    have nRE := Lib.hid (RE.out.go hb)
    have nKB := Lib.hid (KB.out.go hb)
    have nE := Lib.hid (Bx.go E.out hb)
    clear hb
    clear HB RE KB E
    have HB := nHB
    have RE := nRE
    have KB := nKB
    have E := nE
    clear nHB nRE nKB nE
    go_wp2_with fail
    go_ret
    exact ⟨rfl, HB.out⟩
  rw [decide_eq_true hfe] at CF
  by_cases hl : b.length ≤ 1000
  case neg =>
    have hn : (1000 : Int) < (b.length : Int) := by omega
    generalize b.length = n at *
    clear hfe h1 h2 hl
    obtain ⟨V0, hV, hb, hg⟩ := bx1 W 25 (envC x e)
    have HB := Lib.hid hb
    have E := Lib.hid hg
    have HV := Lib.hid hV
    have nRE := Lib.hid (RE.out.go hb)
    clear RE
    have RE := nRE
    clear nRE
    have nKB := Lib.hid (KB.out.go hb)
    clear KB
    have KB := nKB
    clear nKB
    clear hb hg hV
    go_enter Try.func5, Try.ntmps5
    go_upto_region 1 with (fail)
    rw [← HV.out]
    clear HV
    go_wp2_with fail
    refine (shown12_any _).mono ?_
    rintro e w1 ⟨rfl, hb⟩
    have nHB := Lib.hid (belG HB.out hb HB.out.size)
    have nRE := Lib.hid (RE.out.go hb)
    have nKB := Lib.hid (KB.out.go hb)
    have nE := Lib.hid (Bx.go E.out hb)
    clear hb
    clear HB RE KB E
    have HB := nHB
    have RE := nRE
    have KB := nKB
    have E := nE
    clear nHB nRE nKB nE
    go_wp2_with (refine loadX (.tmp 2) W.heap.size (envC x e) tyEnv rfl E.out rfl rfl rfl ?_)
    refine (CF.out _).mono ?_
    rintro e w2 ⟨rfl, hb⟩
    have nHB := Lib.hid (belG HB.out hb HB.out.size)
    have nRE := Lib.hid (RE.out.go hb)
    have nKB := Lib.hid (KB.out.go hb)
    have nE := Lib.hid (Bx.go E.out hb)
    clear hb
    clear HB RE KB E
    have HB := nHB
    have RE := nRE
    have KB := nKB
    have E := nE
    clear nHB nRE nKB nE
    go_wp2_with fail
    go_ret
    exact ⟨rfl, HB.out⟩
  have hn : ¬ (1000 : Int) < (b.length : Int) := by omega
  have EW := Lib.hid (fun w h => eWrite_any x e w hfe.k h64 h)
  have DR := Lib.hid (fun w => right12_any x e w)
  have CR := Lib.hid (fun w h => eRead_any (A, c) b w (by omega) h)
  have L64 := Lib.hid (read_64 b)
  have LFW := Lib.hid (read_few b)
  by_cases hp : RightE e
  case pos =>
    rw [show writeE e = (inL e ++ e.tag, 0) from by unfold writeE; rw [if_pos hp]] at EW
    rw [decide_eq_true hp] at DR
    have ER := Lib.hid (fun y w h => eRead_any y (inL e ++ e.tag) w (by rw [write_len hp]; have := hp.1.2.2.2.2.2.2.2.2; omega) h)
    rw [read_write hp] at ER
    have DS := Lib.hid (fun u w h k => same12_any u x e e w h k)
    rw [decide_eq_true (rfl : e = e)] at DS
    generalize inL e ++ e.tag = lw at *
    clear hp hfe h64
    by_cases hm : (readE b).2 = 0
    case pos =>
      have CW := Lib.hid (fun y w h => eWrite_any y (readE b).1 w LFW.out L64.out h)
      rw [write_of_read hm] at CW
      have DQ := Lib.hid (fun y w => right12_any y (readE b).1 w)
      rw [decide_eq_true (read_right hm)] at DQ
      have SB := Lib.hid (fun y w h k => sameE_any y (A, c) b b w h k)
      rw [decide_eq_true (rfl : b = b)] at SB
      rw [hm] at CR
      generalize (readE b).1 = r at *
      obtain ⟨n, hnn⟩ : ∃ n, n = b.length := ⟨_, rfl⟩
      have HNL := Lib.hid hnn.symm
      rw [← hnn] at hl h1 hn CR SB ⊢
      clear hnn hm hl h1 h2 LFW L64
      obtain ⟨V0, hV, hb, hg⟩ := bx1 W 25 (envC x e)
      have HB := Lib.hid hb
      have E := Lib.hid hg
      have HV := Lib.hid hV
      have nRE := Lib.hid (RE.out.go hb)
      clear RE
      have RE := nRE
      clear nRE
      have nKB := Lib.hid (KB.out.go hb)
      clear KB
      have KB := nKB
      clear nKB
      clear hb hg hV
      go_enter Try.func5, Try.ntmps5
      go_upto_region 1 with (fail)
      rw [← HV.out]
      clear HV
      go_wp2_with fail
      refine (shown12_any _).mono ?_
      rintro e w1 ⟨rfl, hb⟩
      have nHB := Lib.hid (belG HB.out hb HB.out.size)
      have nRE := Lib.hid (RE.out.go hb)
      have nKB := Lib.hid (KB.out.go hb)
      have nE := Lib.hid (Bx.go E.out hb)
      clear hb
      clear HB RE KB E
      have HB := nHB
      have RE := nRE
      have KB := nKB
      have E := nE
      clear nHB nRE nKB nE
      go_wp2_with (refine loadX (.tmp 2) W.heap.size (envC x e) tyEnv rfl E.out rfl rfl rfl ?_)
      refine (CF.out _).mono ?_
      rintro e w2 ⟨rfl, hb⟩
      have nHB := Lib.hid (belG HB.out hb HB.out.size)
      have nRE := Lib.hid (RE.out.go hb)
      have nKB := Lib.hid (KB.out.go hb)
      have nE := Lib.hid (Bx.go E.out hb)
      clear hb
      clear HB RE KB E
      have HB := nHB
      have RE := nRE
      have KB := nKB
      have E := nE
      clear nHB nRE nKB nE
      go_wp2_with (refine loadX (.tmp 2) W.heap.size (envC x e) tyEnv rfl E.out rfl rfl rfl ?_)
      refine (EW.out _ RE.out).mono ?_
      rintro e w3 ⟨⟨v1, rfl, how⟩, hb⟩
      have nHB := Lib.hid (belG HB.out hb HB.out.size)
      have nRE := Lib.hid (RE.out.go hb)
      have nKB := Lib.hid (KB.out.go hb)
      have nE := Lib.hid (Bx.go E.out hb)
      clear hb
      clear HB RE KB E
      have HB := nHB
      have RE := nRE
      have KB := nKB
      have E := nE
      clear nHB nRE nKB nE
      obtain ⟨y1, rfl, hk⟩ := how.keyE
      have K1 := Lib.hid hk
      clear hk how
      go_wp2_with (refine loadX (.tmp 2) W.heap.size (envC x e) tyEnv rfl E.out rfl rfl rfl ?_)
      refine (DR.out _).mono ?_
      rintro e w4 ⟨rfl, hb⟩
      have nHB := Lib.hid (belG HB.out hb HB.out.size)
      have nRE := Lib.hid (RE.out.go hb)
      have nKB := Lib.hid (KB.out.go hb)
      have nK1 := Lib.hid (K1.out.go hb)
      have nE := Lib.hid (Bx.go E.out hb)
      clear hb
      clear HB RE KB K1 E
      have HB := nHB
      have RE := nRE
      have KB := nKB
      have K1 := nK1
      have E := nE
      clear nHB nRE nKB nK1 nE
      go_wp2_with fail
      refine (ER.out y1 _ K1.out).mono ?_
      rintro e w5 ⟨⟨x2, rfl, hk⟩, hb⟩
      have nHB := Lib.hid (belG HB.out hb HB.out.size)
      have nRE := Lib.hid (RE.out.go hb)
      have nKB := Lib.hid (KB.out.go hb)
      have nK1 := Lib.hid (K1.out.go hb)
      have nE := Lib.hid (Bx.go E.out hb)
      clear hb
      clear HB RE KB K1 E
      have HB := nHB
      have RE := nRE
      have KB := nKB
      have K1 := nK1
      have E := nE
      clear nHB nRE nKB nK1 nE
      have RD := Lib.hid hk
      clear hk
      have LB := Lib.hid HB.out.size
      have LTE := Lib.hid (show W.heap.size < w5.heap.size from Bx.lt E.out)
      obtain ⟨V5, hV5⟩ : ∃ V, V = w5.alloc (.cells (envC x2 e) 25) := ⟨_, rfl⟩
      have ha := (Below.refl w5.heap.size w5).alloc (Nat.le_refl _) (.cells (envC x2 e) 25)
      have hg := heap_alloc_new w5 (.cells (envC x2 e) 25)
      have nHB := Lib.hid (HB.out.alloc HB.out.size (.cells (envC x2 e) 25))
      rw [← hV5] at ha hg nHB
      have nRE := Lib.hid (RE.out.go ha)
      have nKB := Lib.hid (KB.out.go ha)
      have nK1 := Lib.hid (K1.out.go ha)
      have nRD := Lib.hid (RD.out.go ha)
      have nE := Lib.hid (Bx.go E.out ha)
      obtain ⟨d, hd⟩ : ∃ g, g = w5.heap.size := ⟨_, rfl⟩
      rw [← hd] at hg
      have HXD := Lib.hid hd
      have D := Lib.hid hg
      have HV := Lib.hid hV5
      clear ha hg hV5 hd
      clear HB RE KB K1 RD E
      have HB := nHB
      have RE := nRE
      have KB := nKB
      have K1 := nK1
      have RD := nRD
      have E := nE
      clear nHB nRE nKB nK1 nRD nE
      have LED := Lib.hid (show W.heap.size ≤ d from by rw [HXD.out]; exact LB.out)
      have NEED := Lib.hid (show W.heap.size ≠ d from by have h1 := LTE.out; rw [HXD.out]; omega)
      have NEDE := Lib.hid (NEED.out.symm)
      clear LB LTE
      go_upto_region 9 with (refine storeX (.tmp 8) (.tmp 39) _ (envC x2 e) _ tyEnv rfl (envC_one _ _) (heap_alloc_new _ _) rfl rfl rfl rfl rfl ?_; rw [setRowG_fold])
      rw [← HV.out]
      (try rw [← HXD.out])
      clear HV HXD
      go_wp2_with (first | (refine loadX (.tmp 8) d (envC x2 e) tyEnv rfl D.out rfl rfl rfl ?_) | (refine loadX (.tmp 2) W.heap.size (envC x e) tyEnv rfl E.out rfl rfl rfl ?_))
      refine (DS.out x2 _ RD.out RE.out).mono ?_
      rintro e w6 ⟨rfl, hb⟩
      have nHB := Lib.hid (belG HB.out hb HB.out.size)
      have nRE := Lib.hid (RE.out.go hb)
      have nKB := Lib.hid (KB.out.go hb)
      have nK1 := Lib.hid (K1.out.go hb)
      have nRD := Lib.hid (RD.out.go hb)
      have nE := Lib.hid (Bx.go E.out hb)
      have nD := Lib.hid (Bx.go D.out hb)
      clear hb
      clear HB RE KB K1 RD E D
      have HB := nHB
      have RE := nRE
      have KB := nKB
      have K1 := nK1
      have RD := nRD
      have E := nE
      have D := nD
      clear nHB nRE nKB nK1 nRD nE nD
      go_wp2_with fail
      refine (CR.out _ KB.out).mono ?_
      rintro e w7 ⟨⟨x3, rfl, hk⟩, hb⟩
      have nHB := Lib.hid (belG HB.out hb HB.out.size)
      have nRE := Lib.hid (RE.out.go hb)
      have nKB := Lib.hid (KB.out.go hb)
      have nK1 := Lib.hid (K1.out.go hb)
      have nRD := Lib.hid (RD.out.go hb)
      have nE := Lib.hid (Bx.go E.out hb)
      have nD := Lib.hid (Bx.go D.out hb)
      clear hb
      clear HB RE KB K1 RD E D
      have HB := nHB
      have RE := nRE
      have KB := nKB
      have K1 := nK1
      have RD := nRD
      have E := nE
      have D := nD
      clear nHB nRE nKB nK1 nRD nE nD
      have RR := Lib.hid hk
      clear hk
      have LB := Lib.hid HB.out.size
      have LTE := Lib.hid (show W.heap.size < w7.heap.size from Bx.lt E.out)
      have LTD := Lib.hid (show d < w7.heap.size from Bx.lt D.out)
      obtain ⟨V7, hV7⟩ : ∃ V, V = w7.alloc (.cells (envC x3 r) 25) := ⟨_, rfl⟩
      have ha := (Below.refl w7.heap.size w7).alloc (Nat.le_refl _) (.cells (envC x3 r) 25)
      have hg := heap_alloc_new w7 (.cells (envC x3 r) 25)
      have nHB := Lib.hid (HB.out.alloc HB.out.size (.cells (envC x3 r) 25))
      rw [← hV7] at ha hg nHB
      have nRE := Lib.hid (RE.out.go ha)
      have nKB := Lib.hid (KB.out.go ha)
      have nK1 := Lib.hid (K1.out.go ha)
      have nRD := Lib.hid (RD.out.go ha)
      have nRR := Lib.hid (RR.out.go ha)
      have nE := Lib.hid (Bx.go E.out ha)
      have nD := Lib.hid (Bx.go D.out ha)
      obtain ⟨q, hq⟩ : ∃ g, g = w7.heap.size := ⟨_, rfl⟩
      rw [← hq] at hg
      have HXQ := Lib.hid hq
      have Q := Lib.hid hg
      have HV := Lib.hid hV7
      clear ha hg hV7 hq
      clear HB RE KB K1 RD RR E D
      have HB := nHB
      have RE := nRE
      have KB := nKB
      have K1 := nK1
      have RD := nRD
      have RR := nRR
      have E := nE
      have D := nD
      clear nHB nRE nKB nK1 nRD nRR nE nD
      have LEQ := Lib.hid (show W.heap.size ≤ q from by rw [HXQ.out]; exact LB.out)
      have NEEQ := Lib.hid (show W.heap.size ≠ q from by have h1 := LTE.out; rw [HXQ.out]; omega)
      have NEQE := Lib.hid (NEEQ.out.symm)
      have NEDQ := Lib.hid (show d ≠ q from by have h1 := LTD.out; rw [HXQ.out]; omega)
      have NEQD := Lib.hid (NEDQ.out.symm)
      clear LB LTE LTD
      go_upto_region 12 with (refine storeX (.tmp 10) (.tmp 52) _ (envC x3 r) _ tyEnv rfl (envC_one _ _) (heap_alloc_new _ _) rfl rfl rfl rfl rfl ?_; rw [setRowG_fold])
      rw [← HV.out]
      (try rw [← HXQ.out])
      clear HV HXQ
      go_wp2_with (refine loadX (.tmp 10) q (envC x3 r) tyEnv rfl Q.out rfl rfl rfl ?_)
      refine (CW.out x3 _ RR.out).mono ?_
      rintro e w8 ⟨⟨v4, rfl, how⟩, hb⟩
      have nHB := Lib.hid (belG HB.out hb HB.out.size)
      have nRE := Lib.hid (RE.out.go hb)
      have nKB := Lib.hid (KB.out.go hb)
      have nK1 := Lib.hid (K1.out.go hb)
      have nRD := Lib.hid (RD.out.go hb)
      have nRR := Lib.hid (RR.out.go hb)
      have nE := Lib.hid (Bx.go E.out hb)
      have nD := Lib.hid (Bx.go D.out hb)
      have nQ := Lib.hid (Bx.go Q.out hb)
      clear hb
      clear HB RE KB K1 RD RR E D Q
      have HB := nHB
      have RE := nRE
      have KB := nKB
      have K1 := nK1
      have RD := nRD
      have RR := nRR
      have E := nE
      have D := nD
      have Q := nQ
      clear nHB nRE nKB nK1 nRD nRR nE nD nQ
      obtain ⟨y4, rfl, hk⟩ := how.keyE
      have K4 := Lib.hid hk
      clear hk how
      rw [HNL.out]
      go_wp2_with (refine loadX (.tmp 10) q (envC x3 r) tyEnv rfl Q.out rfl rfl rfl ?_)
      refine (DQ.out x3 _).mono ?_
      rintro e w9 ⟨rfl, hb⟩
      have nHB := Lib.hid (belG HB.out hb HB.out.size)
      have nRE := Lib.hid (RE.out.go hb)
      have nKB := Lib.hid (KB.out.go hb)
      have nK1 := Lib.hid (K1.out.go hb)
      have nRD := Lib.hid (RD.out.go hb)
      have nRR := Lib.hid (RR.out.go hb)
      have nK4 := Lib.hid (K4.out.go hb)
      have nE := Lib.hid (Bx.go E.out hb)
      have nD := Lib.hid (Bx.go D.out hb)
      have nQ := Lib.hid (Bx.go Q.out hb)
      clear hb
      clear HB RE KB K1 RD RR K4 E D Q
      have HB := nHB
      have RE := nRE
      have KB := nKB
      have K1 := nK1
      have RD := nRD
      have RR := nRR
      have K4 := nK4
      have E := nE
      have D := nD
      have Q := nQ
      clear nHB nRE nKB nK1 nRD nRR nK4 nE nD nQ
      go_wp2_with fail
      refine (SB.out y4 _ K4.out KB.out).mono ?_
      rintro e w10 ⟨rfl, rfl⟩
      go_wp2_with fail
      go_ret
      exact ⟨by first | rfl | (simp; done), HB.out⟩
    case neg =>
      have HR0 := Lib.hid (read_none hm)
      obtain ⟨m, hmm⟩ : ∃ m, m = (readE b).2 := ⟨_, rfl⟩
      rw [← hmm] at CR hm
      have hm2 : (m == 0) = false := beq_eq_false_iff_ne.2 hm
      have hm3 : (m != 0) = true := by rw [bne, hm2]; rfl
      generalize (readE b).1 = r at *
      generalize b.length = n at *
      clear hm hmm hl h1 h2 LFW L64
      obtain ⟨V0, hV, hb, hg⟩ := bx1 W 25 (envC x e)
      have HB := Lib.hid hb
      have E := Lib.hid hg
      have HV := Lib.hid hV
      have nRE := Lib.hid (RE.out.go hb)
      clear RE
      have RE := nRE
      clear nRE
      have nKB := Lib.hid (KB.out.go hb)
      clear KB
      have KB := nKB
      clear nKB
      clear hb hg hV
      go_enter Try.func5, Try.ntmps5
      go_upto_region 1 with (fail)
      rw [← HV.out]
      clear HV
      go_wp2_with fail
      refine (shown12_any _).mono ?_
      rintro e w1 ⟨rfl, hb⟩
      have nHB := Lib.hid (belG HB.out hb HB.out.size)
      have nRE := Lib.hid (RE.out.go hb)
      have nKB := Lib.hid (KB.out.go hb)
      have nE := Lib.hid (Bx.go E.out hb)
      clear hb
      clear HB RE KB E
      have HB := nHB
      have RE := nRE
      have KB := nKB
      have E := nE
      clear nHB nRE nKB nE
      go_wp2_with (refine loadX (.tmp 2) W.heap.size (envC x e) tyEnv rfl E.out rfl rfl rfl ?_)
      refine (CF.out _).mono ?_
      rintro e w2 ⟨rfl, hb⟩
      have nHB := Lib.hid (belG HB.out hb HB.out.size)
      have nRE := Lib.hid (RE.out.go hb)
      have nKB := Lib.hid (KB.out.go hb)
      have nE := Lib.hid (Bx.go E.out hb)
      clear hb
      clear HB RE KB E
      have HB := nHB
      have RE := nRE
      have KB := nKB
      have E := nE
      clear nHB nRE nKB nE
      go_wp2_with (refine loadX (.tmp 2) W.heap.size (envC x e) tyEnv rfl E.out rfl rfl rfl ?_)
      refine (EW.out _ RE.out).mono ?_
      rintro e w3 ⟨⟨v1, rfl, how⟩, hb⟩
      have nHB := Lib.hid (belG HB.out hb HB.out.size)
      have nRE := Lib.hid (RE.out.go hb)
      have nKB := Lib.hid (KB.out.go hb)
      have nE := Lib.hid (Bx.go E.out hb)
      clear hb
      clear HB RE KB E
      have HB := nHB
      have RE := nRE
      have KB := nKB
      have E := nE
      clear nHB nRE nKB nE
      obtain ⟨y1, rfl, hk⟩ := how.keyE
      have K1 := Lib.hid hk
      clear hk how
      go_wp2_with (refine loadX (.tmp 2) W.heap.size (envC x e) tyEnv rfl E.out rfl rfl rfl ?_)
      refine (DR.out _).mono ?_
      rintro e w4 ⟨rfl, hb⟩
      have nHB := Lib.hid (belG HB.out hb HB.out.size)
      have nRE := Lib.hid (RE.out.go hb)
      have nKB := Lib.hid (KB.out.go hb)
      have nK1 := Lib.hid (K1.out.go hb)
      have nE := Lib.hid (Bx.go E.out hb)
      clear hb
      clear HB RE KB K1 E
      have HB := nHB
      have RE := nRE
      have KB := nKB
      have K1 := nK1
      have E := nE
      clear nHB nRE nKB nK1 nE
      go_wp2_with fail
      refine (ER.out y1 _ K1.out).mono ?_
      rintro e w5 ⟨⟨x2, rfl, hk⟩, hb⟩
      have nHB := Lib.hid (belG HB.out hb HB.out.size)
      have nRE := Lib.hid (RE.out.go hb)
      have nKB := Lib.hid (KB.out.go hb)
      have nK1 := Lib.hid (K1.out.go hb)
      have nE := Lib.hid (Bx.go E.out hb)
      clear hb
      clear HB RE KB K1 E
      have HB := nHB
      have RE := nRE
      have KB := nKB
      have K1 := nK1
      have E := nE
      clear nHB nRE nKB nK1 nE
      have RD := Lib.hid hk
      clear hk
      have LB := Lib.hid HB.out.size
      have LTE := Lib.hid (show W.heap.size < w5.heap.size from Bx.lt E.out)
      obtain ⟨V5, hV5⟩ : ∃ V, V = w5.alloc (.cells (envC x2 e) 25) := ⟨_, rfl⟩
      have ha := (Below.refl w5.heap.size w5).alloc (Nat.le_refl _) (.cells (envC x2 e) 25)
      have hg := heap_alloc_new w5 (.cells (envC x2 e) 25)
      have nHB := Lib.hid (HB.out.alloc HB.out.size (.cells (envC x2 e) 25))
      rw [← hV5] at ha hg nHB
      have nRE := Lib.hid (RE.out.go ha)
      have nKB := Lib.hid (KB.out.go ha)
      have nK1 := Lib.hid (K1.out.go ha)
      have nRD := Lib.hid (RD.out.go ha)
      have nE := Lib.hid (Bx.go E.out ha)
      obtain ⟨d, hd⟩ : ∃ g, g = w5.heap.size := ⟨_, rfl⟩
      rw [← hd] at hg
      have HXD := Lib.hid hd
      have D := Lib.hid hg
      have HV := Lib.hid hV5
      clear ha hg hV5 hd
      clear HB RE KB K1 RD E
      have HB := nHB
      have RE := nRE
      have KB := nKB
      have K1 := nK1
      have RD := nRD
      have E := nE
      clear nHB nRE nKB nK1 nRD nE
      have LED := Lib.hid (show W.heap.size ≤ d from by rw [HXD.out]; exact LB.out)
      have NEED := Lib.hid (show W.heap.size ≠ d from by have h1 := LTE.out; rw [HXD.out]; omega)
      have NEDE := Lib.hid (NEED.out.symm)
      clear LB LTE
      go_upto_region 9 with (refine storeX (.tmp 8) (.tmp 39) _ (envC x2 e) _ tyEnv rfl (envC_one _ _) (heap_alloc_new _ _) rfl rfl rfl rfl rfl ?_; rw [setRowG_fold])
      rw [← HV.out]
      (try rw [← HXD.out])
      clear HV HXD
      go_wp2_with (first | (refine loadX (.tmp 8) d (envC x2 e) tyEnv rfl D.out rfl rfl rfl ?_) | (refine loadX (.tmp 2) W.heap.size (envC x e) tyEnv rfl E.out rfl rfl rfl ?_))
      refine (DS.out x2 _ RD.out RE.out).mono ?_
      rintro e w6 ⟨rfl, hb⟩
      have nHB := Lib.hid (belG HB.out hb HB.out.size)
      have nRE := Lib.hid (RE.out.go hb)
      have nKB := Lib.hid (KB.out.go hb)
      have nK1 := Lib.hid (K1.out.go hb)
      have nRD := Lib.hid (RD.out.go hb)
      have nE := Lib.hid (Bx.go E.out hb)
      have nD := Lib.hid (Bx.go D.out hb)
      clear hb
      clear HB RE KB K1 RD E D
      have HB := nHB
      have RE := nRE
      have KB := nKB
      have K1 := nK1
      have RD := nRD
      have E := nE
      have D := nD
      clear nHB nRE nKB nK1 nRD nE nD
      go_wp2_with fail
      refine (CR.out _ KB.out).mono ?_
      rintro e w7 ⟨⟨x3, rfl, hk⟩, hb⟩
      have nHB := Lib.hid (belG HB.out hb HB.out.size)
      have nRE := Lib.hid (RE.out.go hb)
      have nKB := Lib.hid (KB.out.go hb)
      have nK1 := Lib.hid (K1.out.go hb)
      have nRD := Lib.hid (RD.out.go hb)
      have nE := Lib.hid (Bx.go E.out hb)
      have nD := Lib.hid (Bx.go D.out hb)
      clear hb
      clear HB RE KB K1 RD E D
      have HB := nHB
      have RE := nRE
      have KB := nKB
      have K1 := nK1
      have RD := nRD
      have E := nE
      have D := nD
      clear nHB nRE nKB nK1 nRD nE nD
      have RR := Lib.hid hk
      clear hk
      have LB := Lib.hid HB.out.size
      have LTE := Lib.hid (show W.heap.size < w7.heap.size from Bx.lt E.out)
      have LTD := Lib.hid (show d < w7.heap.size from Bx.lt D.out)
      obtain ⟨V7, hV7⟩ : ∃ V, V = w7.alloc (.cells (envC x3 r) 25) := ⟨_, rfl⟩
      have ha := (Below.refl w7.heap.size w7).alloc (Nat.le_refl _) (.cells (envC x3 r) 25)
      have hg := heap_alloc_new w7 (.cells (envC x3 r) 25)
      have nHB := Lib.hid (HB.out.alloc HB.out.size (.cells (envC x3 r) 25))
      rw [← hV7] at ha hg nHB
      have nRE := Lib.hid (RE.out.go ha)
      have nKB := Lib.hid (KB.out.go ha)
      have nK1 := Lib.hid (K1.out.go ha)
      have nRD := Lib.hid (RD.out.go ha)
      have nRR := Lib.hid (RR.out.go ha)
      have nE := Lib.hid (Bx.go E.out ha)
      have nD := Lib.hid (Bx.go D.out ha)
      obtain ⟨q, hq⟩ : ∃ g, g = w7.heap.size := ⟨_, rfl⟩
      rw [← hq] at hg
      have HXQ := Lib.hid hq
      have Q := Lib.hid hg
      have HV := Lib.hid hV7
      clear ha hg hV7 hq
      clear HB RE KB K1 RD RR E D
      have HB := nHB
      have RE := nRE
      have KB := nKB
      have K1 := nK1
      have RD := nRD
      have RR := nRR
      have E := nE
      have D := nD
      clear nHB nRE nKB nK1 nRD nRR nE nD
      have LEQ := Lib.hid (show W.heap.size ≤ q from by rw [HXQ.out]; exact LB.out)
      have NEEQ := Lib.hid (show W.heap.size ≠ q from by have h1 := LTE.out; rw [HXQ.out]; omega)
      have NEQE := Lib.hid (NEEQ.out.symm)
      have NEDQ := Lib.hid (show d ≠ q from by have h1 := LTD.out; rw [HXQ.out]; omega)
      have NEQD := Lib.hid (NEDQ.out.symm)
      clear LB LTE LTD
      go_upto_region 12 with (refine storeX (.tmp 10) (.tmp 52) _ (envC x3 r) _ tyEnv rfl (envC_one _ _) (heap_alloc_new _ _) rfl rfl rfl rfl rfl ?_; rw [setRowG_fold])
      rw [← HV.out]
      (try rw [← HXQ.out])
      clear HV HXQ
      have x6 := Bx.cell Q.out (show (envC x3 r)[6]? = some (.slice x3.body.1 0 x3.body.2) from by rw [HR0.out]; rfl)
      have x7 := Bx.cell Q.out (show (envC x3 r)[7]? = some (.slice x3.tag.1 0 x3.tag.2) from by rw [HR0.out]; rfl)
      go_wp2_with fail
      go_ret
      exact ⟨by first | rfl | (simp; done), HB.out⟩
  rw [show writeE e = ([], 1) from by unfold writeE; rw [if_neg hp]] at EW
  rw [decide_eq_false hp] at DR
  clear hp hfe h64
  by_cases hm : (readE b).2 = 0
  case pos =>
    have CW := Lib.hid (fun y w h => eWrite_any y (readE b).1 w LFW.out L64.out h)
    rw [write_of_read hm] at CW
    have DQ := Lib.hid (fun y w => right12_any y (readE b).1 w)
    rw [decide_eq_true (read_right hm)] at DQ
    have SB := Lib.hid (fun y w h k => sameE_any y (A, c) b b w h k)
    rw [decide_eq_true (rfl : b = b)] at SB
    rw [hm] at CR
    generalize (readE b).1 = r at *
    obtain ⟨n, hnn⟩ : ∃ n, n = b.length := ⟨_, rfl⟩
    have HNL := Lib.hid hnn.symm
    rw [← hnn] at hl h1 hn CR SB ⊢
    clear hnn hm hl h1 h2 LFW L64
    obtain ⟨V0, hV, hb, hg⟩ := bx1 W 25 (envC x e)
    have HB := Lib.hid hb
    have E := Lib.hid hg
    have HV := Lib.hid hV
    have nRE := Lib.hid (RE.out.go hb)
    clear RE
    have RE := nRE
    clear nRE
    have nKB := Lib.hid (KB.out.go hb)
    clear KB
    have KB := nKB
    clear nKB
    clear hb hg hV
    go_enter Try.func5, Try.ntmps5
    go_upto_region 1 with (fail)
    rw [← HV.out]
    clear HV
    go_wp2_with fail
    refine (shown12_any _).mono ?_
    rintro e w1 ⟨rfl, hb⟩
    have nHB := Lib.hid (belG HB.out hb HB.out.size)
    have nRE := Lib.hid (RE.out.go hb)
    have nKB := Lib.hid (KB.out.go hb)
    have nE := Lib.hid (Bx.go E.out hb)
    clear hb
    clear HB RE KB E
    have HB := nHB
    have RE := nRE
    have KB := nKB
    have E := nE
    clear nHB nRE nKB nE
    go_wp2_with (refine loadX (.tmp 2) W.heap.size (envC x e) tyEnv rfl E.out rfl rfl rfl ?_)
    refine (CF.out _).mono ?_
    rintro e w2 ⟨rfl, hb⟩
    have nHB := Lib.hid (belG HB.out hb HB.out.size)
    have nRE := Lib.hid (RE.out.go hb)
    have nKB := Lib.hid (KB.out.go hb)
    have nE := Lib.hid (Bx.go E.out hb)
    clear hb
    clear HB RE KB E
    have HB := nHB
    have RE := nRE
    have KB := nKB
    have E := nE
    clear nHB nRE nKB nE
    go_wp2_with (refine loadX (.tmp 2) W.heap.size (envC x e) tyEnv rfl E.out rfl rfl rfl ?_)
    refine (EW.out _ RE.out).mono ?_
    rintro e w3 ⟨⟨v1, rfl, how⟩, hb⟩
    have nHB := Lib.hid (belG HB.out hb HB.out.size)
    have nRE := Lib.hid (RE.out.go hb)
    have nKB := Lib.hid (KB.out.go hb)
    have nE := Lib.hid (Bx.go E.out hb)
    clear hb
    clear HB RE KB E
    have HB := nHB
    have RE := nRE
    have KB := nKB
    have E := nE
    clear nHB nRE nKB nE
    obtain ⟨y1, rfl, hk⟩ := how.keyE
    have K1 := Lib.hid hk
    clear hk how
    go_wp2_with (refine loadX (.tmp 2) W.heap.size (envC x e) tyEnv rfl E.out rfl rfl rfl ?_)
    refine (DR.out _).mono ?_
    rintro e w4 ⟨rfl, hb⟩
    have nHB := Lib.hid (belG HB.out hb HB.out.size)
    have nRE := Lib.hid (RE.out.go hb)
    have nKB := Lib.hid (KB.out.go hb)
    have nK1 := Lib.hid (K1.out.go hb)
    have nE := Lib.hid (Bx.go E.out hb)
    clear hb
    clear HB RE KB K1 E
    have HB := nHB
    have RE := nRE
    have KB := nKB
    have K1 := nK1
    have E := nE
    clear nHB nRE nKB nK1 nE
    go_wp2_with fail
    refine (CR.out _ KB.out).mono ?_
    rintro e w5 ⟨⟨x3, rfl, hk⟩, hb⟩
    have nHB := Lib.hid (belG HB.out hb HB.out.size)
    have nRE := Lib.hid (RE.out.go hb)
    have nKB := Lib.hid (KB.out.go hb)
    have nK1 := Lib.hid (K1.out.go hb)
    have nE := Lib.hid (Bx.go E.out hb)
    clear hb
    clear HB RE KB K1 E
    have HB := nHB
    have RE := nRE
    have KB := nKB
    have K1 := nK1
    have E := nE
    clear nHB nRE nKB nK1 nE
    have RR := Lib.hid hk
    clear hk
    have LB := Lib.hid HB.out.size
    have LTE := Lib.hid (show W.heap.size < w5.heap.size from Bx.lt E.out)
    obtain ⟨V5, hV5⟩ : ∃ V, V = w5.alloc (.cells (envC x3 r) 25) := ⟨_, rfl⟩
    have ha := (Below.refl w5.heap.size w5).alloc (Nat.le_refl _) (.cells (envC x3 r) 25)
    have hg := heap_alloc_new w5 (.cells (envC x3 r) 25)
    have nHB := Lib.hid (HB.out.alloc HB.out.size (.cells (envC x3 r) 25))
    rw [← hV5] at ha hg nHB
    have nRE := Lib.hid (RE.out.go ha)
    have nKB := Lib.hid (KB.out.go ha)
    have nK1 := Lib.hid (K1.out.go ha)
    have nRR := Lib.hid (RR.out.go ha)
    have nE := Lib.hid (Bx.go E.out ha)
    obtain ⟨q, hq⟩ : ∃ g, g = w5.heap.size := ⟨_, rfl⟩
    rw [← hq] at hg
    have HXQ := Lib.hid hq
    have Q := Lib.hid hg
    have HV := Lib.hid hV5
    clear ha hg hV5 hq
    clear HB RE KB K1 RR E
    have HB := nHB
    have RE := nRE
    have KB := nKB
    have K1 := nK1
    have RR := nRR
    have E := nE
    clear nHB nRE nKB nK1 nRR nE
    have LEQ := Lib.hid (show W.heap.size ≤ q from by rw [HXQ.out]; exact LB.out)
    have NEEQ := Lib.hid (show W.heap.size ≠ q from by have h1 := LTE.out; rw [HXQ.out]; omega)
    have NEQE := Lib.hid (NEEQ.out.symm)
    clear LB LTE
    go_upto_region 12 with (refine storeX (.tmp 10) (.tmp 52) _ (envC x3 r) _ tyEnv rfl (envC_one _ _) (heap_alloc_new _ _) rfl rfl rfl rfl rfl ?_; rw [setRowG_fold])
    rw [← HV.out]
    (try rw [← HXQ.out])
    clear HV HXQ
    go_wp2_with (refine loadX (.tmp 10) q (envC x3 r) tyEnv rfl Q.out rfl rfl rfl ?_)
    refine (CW.out x3 _ RR.out).mono ?_
    rintro e w6 ⟨⟨v4, rfl, how⟩, hb⟩
    have nHB := Lib.hid (belG HB.out hb HB.out.size)
    have nRE := Lib.hid (RE.out.go hb)
    have nKB := Lib.hid (KB.out.go hb)
    have nK1 := Lib.hid (K1.out.go hb)
    have nRR := Lib.hid (RR.out.go hb)
    have nE := Lib.hid (Bx.go E.out hb)
    have nQ := Lib.hid (Bx.go Q.out hb)
    clear hb
    clear HB RE KB K1 RR E Q
    have HB := nHB
    have RE := nRE
    have KB := nKB
    have K1 := nK1
    have RR := nRR
    have E := nE
    have Q := nQ
    clear nHB nRE nKB nK1 nRR nE nQ
    obtain ⟨y4, rfl, hk⟩ := how.keyE
    have K4 := Lib.hid hk
    clear hk how
    rw [HNL.out]
    go_wp2_with (refine loadX (.tmp 10) q (envC x3 r) tyEnv rfl Q.out rfl rfl rfl ?_)
    refine (DQ.out x3 _).mono ?_
    rintro e w7 ⟨rfl, hb⟩
    have nHB := Lib.hid (belG HB.out hb HB.out.size)
    have nRE := Lib.hid (RE.out.go hb)
    have nKB := Lib.hid (KB.out.go hb)
    have nK1 := Lib.hid (K1.out.go hb)
    have nRR := Lib.hid (RR.out.go hb)
    have nK4 := Lib.hid (K4.out.go hb)
    have nE := Lib.hid (Bx.go E.out hb)
    have nQ := Lib.hid (Bx.go Q.out hb)
    clear hb
    clear HB RE KB K1 RR K4 E Q
    have HB := nHB
    have RE := nRE
    have KB := nKB
    have K1 := nK1
    have RR := nRR
    have K4 := nK4
    have E := nE
    have Q := nQ
    clear nHB nRE nKB nK1 nRR nK4 nE nQ
    go_wp2_with fail
    refine (SB.out y4 _ K4.out KB.out).mono ?_
    rintro e w8 ⟨rfl, rfl⟩
    go_wp2_with fail
    go_ret
    exact ⟨by first | rfl | (simp; done), HB.out⟩
  case neg =>
    have HR0 := Lib.hid (read_none hm)
    obtain ⟨m, hmm⟩ : ∃ m, m = (readE b).2 := ⟨_, rfl⟩
    rw [← hmm] at CR hm
    have hm2 : (m == 0) = false := beq_eq_false_iff_ne.2 hm
    have hm3 : (m != 0) = true := by rw [bne, hm2]; rfl
    generalize (readE b).1 = r at *
    generalize b.length = n at *
    clear hm hmm hl h1 h2 LFW L64
    obtain ⟨V0, hV, hb, hg⟩ := bx1 W 25 (envC x e)
    have HB := Lib.hid hb
    have E := Lib.hid hg
    have HV := Lib.hid hV
    have nRE := Lib.hid (RE.out.go hb)
    clear RE
    have RE := nRE
    clear nRE
    have nKB := Lib.hid (KB.out.go hb)
    clear KB
    have KB := nKB
    clear nKB
    clear hb hg hV
    go_enter Try.func5, Try.ntmps5
    go_upto_region 1 with (fail)
    rw [← HV.out]
    clear HV
    go_wp2_with fail
    refine (shown12_any _).mono ?_
    rintro e w1 ⟨rfl, hb⟩
    have nHB := Lib.hid (belG HB.out hb HB.out.size)
    have nRE := Lib.hid (RE.out.go hb)
    have nKB := Lib.hid (KB.out.go hb)
    have nE := Lib.hid (Bx.go E.out hb)
    clear hb
    clear HB RE KB E
    have HB := nHB
    have RE := nRE
    have KB := nKB
    have E := nE
    clear nHB nRE nKB nE
    go_wp2_with (refine loadX (.tmp 2) W.heap.size (envC x e) tyEnv rfl E.out rfl rfl rfl ?_)
    refine (CF.out _).mono ?_
    rintro e w2 ⟨rfl, hb⟩
    have nHB := Lib.hid (belG HB.out hb HB.out.size)
    have nRE := Lib.hid (RE.out.go hb)
    have nKB := Lib.hid (KB.out.go hb)
    have nE := Lib.hid (Bx.go E.out hb)
    clear hb
    clear HB RE KB E
    have HB := nHB
    have RE := nRE
    have KB := nKB
    have E := nE
    clear nHB nRE nKB nE
    go_wp2_with (refine loadX (.tmp 2) W.heap.size (envC x e) tyEnv rfl E.out rfl rfl rfl ?_)
    refine (EW.out _ RE.out).mono ?_
    rintro e w3 ⟨⟨v1, rfl, how⟩, hb⟩
    have nHB := Lib.hid (belG HB.out hb HB.out.size)
    have nRE := Lib.hid (RE.out.go hb)
    have nKB := Lib.hid (KB.out.go hb)
    have nE := Lib.hid (Bx.go E.out hb)
    clear hb
    clear HB RE KB E
    have HB := nHB
    have RE := nRE
    have KB := nKB
    have E := nE
    clear nHB nRE nKB nE
    obtain ⟨y1, rfl, hk⟩ := how.keyE
    have K1 := Lib.hid hk
    clear hk how
    go_wp2_with (refine loadX (.tmp 2) W.heap.size (envC x e) tyEnv rfl E.out rfl rfl rfl ?_)
    refine (DR.out _).mono ?_
    rintro e w4 ⟨rfl, hb⟩
    have nHB := Lib.hid (belG HB.out hb HB.out.size)
    have nRE := Lib.hid (RE.out.go hb)
    have nKB := Lib.hid (KB.out.go hb)
    have nK1 := Lib.hid (K1.out.go hb)
    have nE := Lib.hid (Bx.go E.out hb)
    clear hb
    clear HB RE KB K1 E
    have HB := nHB
    have RE := nRE
    have KB := nKB
    have K1 := nK1
    have E := nE
    clear nHB nRE nKB nK1 nE
    go_wp2_with fail
    refine (CR.out _ KB.out).mono ?_
    rintro e w5 ⟨⟨x3, rfl, hk⟩, hb⟩
    have nHB := Lib.hid (belG HB.out hb HB.out.size)
    have nRE := Lib.hid (RE.out.go hb)
    have nKB := Lib.hid (KB.out.go hb)
    have nK1 := Lib.hid (K1.out.go hb)
    have nE := Lib.hid (Bx.go E.out hb)
    clear hb
    clear HB RE KB K1 E
    have HB := nHB
    have RE := nRE
    have KB := nKB
    have K1 := nK1
    have E := nE
    clear nHB nRE nKB nK1 nE
    have RR := Lib.hid hk
    clear hk
    have LB := Lib.hid HB.out.size
    have LTE := Lib.hid (show W.heap.size < w5.heap.size from Bx.lt E.out)
    obtain ⟨V5, hV5⟩ : ∃ V, V = w5.alloc (.cells (envC x3 r) 25) := ⟨_, rfl⟩
    have ha := (Below.refl w5.heap.size w5).alloc (Nat.le_refl _) (.cells (envC x3 r) 25)
    have hg := heap_alloc_new w5 (.cells (envC x3 r) 25)
    have nHB := Lib.hid (HB.out.alloc HB.out.size (.cells (envC x3 r) 25))
    rw [← hV5] at ha hg nHB
    have nRE := Lib.hid (RE.out.go ha)
    have nKB := Lib.hid (KB.out.go ha)
    have nK1 := Lib.hid (K1.out.go ha)
    have nRR := Lib.hid (RR.out.go ha)
    have nE := Lib.hid (Bx.go E.out ha)
    obtain ⟨q, hq⟩ : ∃ g, g = w5.heap.size := ⟨_, rfl⟩
    rw [← hq] at hg
    have HXQ := Lib.hid hq
    have Q := Lib.hid hg
    have HV := Lib.hid hV5
    clear ha hg hV5 hq
    clear HB RE KB K1 RR E
    have HB := nHB
    have RE := nRE
    have KB := nKB
    have K1 := nK1
    have RR := nRR
    have E := nE
    clear nHB nRE nKB nK1 nRR nE
    have LEQ := Lib.hid (show W.heap.size ≤ q from by rw [HXQ.out]; exact LB.out)
    have NEEQ := Lib.hid (show W.heap.size ≠ q from by have h1 := LTE.out; rw [HXQ.out]; omega)
    have NEQE := Lib.hid (NEEQ.out.symm)
    clear LB LTE
    go_upto_region 12 with (refine storeX (.tmp 10) (.tmp 52) _ (envC x3 r) _ tyEnv rfl (envC_one _ _) (heap_alloc_new _ _) rfl rfl rfl rfl rfl ?_; rw [setRowG_fold])
    rw [← HV.out]
    (try rw [← HXQ.out])
    clear HV HXQ
    have x6 := Bx.cell Q.out (show (envC x3 r)[6]? = some (.slice x3.body.1 0 x3.body.2) from by rw [HR0.out]; rfl)
    have x7 := Bx.cell Q.out (show (envC x3 r)[7]? = some (.slice x3.tag.1 0 x3.tag.2) from by rw [HR0.out]; rfl)
    go_wp2_with fail
    go_ret
    exact ⟨by first | rfl | (simp; done), HB.out⟩
end Go.Proofs.Ytjkkceecagbjjaa
