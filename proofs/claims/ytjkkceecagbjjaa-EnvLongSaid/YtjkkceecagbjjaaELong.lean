
/- EnvLong's walk. -/
import Derived.Test.YtjkkceecagbjjaaEnS
namespace Go.Proofs.Ytjkkceecagbjjaa
open Go.RowKit

set_option maxRecDepth 100000 in
theorem KeyE.take {w : World} {x : Wke} {l : List UInt8} (h : KeyE w x l) (q : Nat) : KeyE w x (l.take q) := by
  have h1 := h.1
  refine ⟨by rw [List.length_take]; omega, h.2.1, fun h0 => ?_⟩
  rw [List.length_take] at h0
  obtain ⟨b, o, e, hb, hc⟩ := h.2.2 (by omega)
  refine ⟨b, o, e, hb, fun j hj => ?_⟩
  rw [List.length_take] at hj
  rw [hc j (by omega)]
  simp only [List.getElem_take]
set_option maxRecDepth 100000 in
set_option maxHeartbeats 4000000 in
theorem envLong_walk (x : We) (e : Ev) (cut : Int) (A : Option Addr) (b : List UInt8) (c : Nat) (W : World) (h64 : Ev64 e) (he : EnvR W x e) (hk : 0 ≤ cut ∧ cut ≤ 65535) (h1 : b.length ≤ c) (h2 : c ≤ 9223372036854775807) (h3 : Rd W W.heap.size A b) :
    Calls Try.prog 7 #[.agg (envC x e), .int .u16 cut, .slice A b.length c] W fun e W' => e = .returned (.bool true) ∧ Below W.heap.size W W' := by
  have RE := Lib.hid he
  have KB := Lib.hid (show KeyE W (A, c) b from ⟨h1, h2, h3⟩)
  clear he h3
  have CF := Lib.hid (fun w => few12_any x e w)
  have CT := Lib.hid (fun w => right12_any x e w)
  by_cases hfe : fewE e
  case neg =>
    rw [decide_eq_false hfe] at CF
    generalize b.length = n at *
    clear hfe h1 h2
    obtain ⟨V0, hV, hb, hg⟩ := bx1 W 25 (envC x e)
    have HB := Lib.hid hb
    have E := Lib.hid hg
    have HV := Lib.hid hV
    have nRE := Lib.hid (RE.out.go hb)
    clear RE
    have RE := nRE
    clear nRE
    have nKB := Lib.hid (KB.out.go hb)
    clear KB
    have KB := nKB
    clear nKB
    clear hb hg hV
    go_enter Try.func7, Try.ntmps7
    go_upto_region 1 with (fail)
    rw [← HV.out]
    clear HV
    go_wp2_with fail
    refine (shown12_any _).mono ?_
    rintro e w1 ⟨rfl, hb⟩
    have nHB := Lib.hid (belG HB.out hb HB.out.size)
    have nRE := Lib.hid (RE.out.go hb)
    have nKB := Lib.hid (KB.out.go hb)
    have nE := Lib.hid (Bx.go E.out hb)
    clear hb
    clear HB RE KB E
    have HB := nHB
    have RE := nRE
    have KB := nKB
    have E := nE
    clear nHB nRE nKB nE
    go_wp2_with (refine loadX (.tmp 3) W.heap.size (envC x e) tyEnv rfl E.out rfl rfl rfl ?_)
    refine (CF.out _).mono ?_
    rintro e w2 ⟨rfl, hb⟩
    have nHB := Lib.hid (belG HB.out hb HB.out.size)
    have nRE := Lib.hid (RE.out.go hb)
    have nKB := Lib.hid (KB.out.go hb)
    have nE := Lib.hid (Bx.go E.out hb)
    clear hb
    clear HB RE KB E
    have HB := nHB
    have RE := nRE
    have KB := nKB
    have E := nE
    clear nHB nRE nKB nE
    go_wp2_with fail
    go_ret
    exact ⟨rfl, HB.out⟩
  rw [decide_eq_true hfe] at CF
  by_cases hp : RightE e
  case neg =>
    rw [decide_eq_false hp] at CT
    generalize b.length = n at *
    clear hfe h1 h2 hp
    obtain ⟨V0, hV, hb, hg⟩ := bx1 W 25 (envC x e)
    have HB := Lib.hid hb
    have E := Lib.hid hg
    have HV := Lib.hid hV
    have nRE := Lib.hid (RE.out.go hb)
    clear RE
    have RE := nRE
    clear nRE
    have nKB := Lib.hid (KB.out.go hb)
    clear KB
    have KB := nKB
    clear nKB
    clear hb hg hV
    go_enter Try.func7, Try.ntmps7
    go_upto_region 1 with (fail)
    rw [← HV.out]
    clear HV
    go_wp2_with fail
    refine (shown12_any _).mono ?_
    rintro e w1 ⟨rfl, hb⟩
    have nHB := Lib.hid (belG HB.out hb HB.out.size)
    have nRE := Lib.hid (RE.out.go hb)
    have nKB := Lib.hid (KB.out.go hb)
    have nE := Lib.hid (Bx.go E.out hb)
    clear hb
    clear HB RE KB E
    have HB := nHB
    have RE := nRE
    have KB := nKB
    have E := nE
    clear nHB nRE nKB nE
    go_wp2_with (refine loadX (.tmp 3) W.heap.size (envC x e) tyEnv rfl E.out rfl rfl rfl ?_)
    refine (CF.out _).mono ?_
    rintro e w2 ⟨rfl, hb⟩
    have nHB := Lib.hid (belG HB.out hb HB.out.size)
    have nRE := Lib.hid (RE.out.go hb)
    have nKB := Lib.hid (KB.out.go hb)
    have nE := Lib.hid (Bx.go E.out hb)
    clear hb
    clear HB RE KB E
    have HB := nHB
    have RE := nRE
    have KB := nKB
    have E := nE
    clear nHB nRE nKB nE
    go_wp2_with (refine loadX (.tmp 3) W.heap.size (envC x e) tyEnv rfl E.out rfl rfl rfl ?_)
    refine (CT.out _).mono ?_
    rintro e w3 ⟨rfl, hb⟩
    have nHB := Lib.hid (belG HB.out hb HB.out.size)
    have nRE := Lib.hid (RE.out.go hb)
    have nKB := Lib.hid (KB.out.go hb)
    have nE := Lib.hid (Bx.go E.out hb)
    clear hb
    clear HB RE KB E
    have HB := nHB
    have RE := nRE
    have KB := nKB
    have E := nE
    clear nHB nRE nKB nE
    go_wp2_with fail
    go_ret
    exact ⟨rfl, HB.out⟩
  rw [decide_eq_true hp] at CT
  by_cases hl : b.length ≤ 1000
  case neg =>
    have hn : (1000 : Int) < (b.length : Int) := by omega
    generalize b.length = n at *
    clear hfe h1 h2 hl hp
    obtain ⟨V0, hV, hb, hg⟩ := bx1 W 25 (envC x e)
    have HB := Lib.hid hb
    have E := Lib.hid hg
    have HV := Lib.hid hV
    have nRE := Lib.hid (RE.out.go hb)
    clear RE
    have RE := nRE
    clear nRE
    have nKB := Lib.hid (KB.out.go hb)
    clear KB
    have KB := nKB
    clear nKB
    clear hb hg hV
    go_enter Try.func7, Try.ntmps7
    go_upto_region 1 with (fail)
    rw [← HV.out]
    clear HV
    go_wp2_with fail
    refine (shown12_any _).mono ?_
    rintro e w1 ⟨rfl, hb⟩
    have nHB := Lib.hid (belG HB.out hb HB.out.size)
    have nRE := Lib.hid (RE.out.go hb)
    have nKB := Lib.hid (KB.out.go hb)
    have nE := Lib.hid (Bx.go E.out hb)
    clear hb
    clear HB RE KB E
    have HB := nHB
    have RE := nRE
    have KB := nKB
    have E := nE
    clear nHB nRE nKB nE
    go_wp2_with (refine loadX (.tmp 3) W.heap.size (envC x e) tyEnv rfl E.out rfl rfl rfl ?_)
    refine (CF.out _).mono ?_
    rintro e w2 ⟨rfl, hb⟩
    have nHB := Lib.hid (belG HB.out hb HB.out.size)
    have nRE := Lib.hid (RE.out.go hb)
    have nKB := Lib.hid (KB.out.go hb)
    have nE := Lib.hid (Bx.go E.out hb)
    clear hb
    clear HB RE KB E
    have HB := nHB
    have RE := nRE
    have KB := nKB
    have E := nE
    clear nHB nRE nKB nE
    go_wp2_with (refine loadX (.tmp 3) W.heap.size (envC x e) tyEnv rfl E.out rfl rfl rfl ?_)
    refine (CT.out _).mono ?_
    rintro e w3 ⟨rfl, hb⟩
    have nHB := Lib.hid (belG HB.out hb HB.out.size)
    have nRE := Lib.hid (RE.out.go hb)
    have nKB := Lib.hid (KB.out.go hb)
    have nE := Lib.hid (Bx.go E.out hb)
    clear hb
    clear HB RE KB E
    have HB := nHB
    have RE := nRE
    have KB := nKB
    have E := nE
    clear nHB nRE nKB nE
    go_wp2_with fail
    go_ret
    exact ⟨rfl, HB.out⟩
  have hn : ¬ (1000 : Int) < (b.length : Int) := by omega
  have EW := Lib.hid (fun w h => eWrite_any x e w hfe.k h64 h)
  rw [show writeE e = (inL e ++ e.tag, 0) from by unfold writeE; rw [if_pos hp]] at EW
  have CR := Lib.hid (fun w h => eRead_any (A, c) b w (by omega) h)
  obtain ⟨tn, rfl⟩ := Int.eq_ofNat_of_zero_le hk.1
  have hk2 := hk.2
  have hN1 : 47 ≤ (inL e ++ e.tag).length ∧ (inL e ++ e.tag).length ≤ 946 := by
    have h5 := write_len hp
    have h6 := hp.1.2.2.2.2.2.2.2
    omega
  have hcut := fun (q : Nat) => cut_read hp (k := q)
  obtain ⟨lw, hlw⟩ : ∃ l, l = inL e ++ e.tag := ⟨_, rfl⟩
  rw [← hlw] at EW hN1 hcut
  obtain ⟨q, hq⟩ : ∃ q, q = tn % lw.length := ⟨_, rfl⟩
  have hqN : q < lw.length := by rw [hq]; exact Nat.mod_lt _ (by omega)
  have i4 : (tn : Int).tmod (lw.length : Int) = (q : Int) := by rw [Int.tmod_eq_emod_of_nonneg (by omega), hq]; push_cast; rfl
  have i5 : (tn : Int) % (lw.length : Int) = (q : Int) := by rw [hq]; push_cast; rfl
  obtain ⟨r1, hr1⟩ : ∃ r, r = (readE (lw.take q)).1 := ⟨_, rfl⟩
  obtain ⟨m1, hm1⟩ : ∃ r, r = (readE (lw.take q)).2 := ⟨_, rfl⟩
  have CC := Lib.hid (fun (A1 : Option Addr) (c1 : Nat) w (h : KeyE w (A1, c1) lw) => (show Calls Try.prog 20 #[.slice A1 q c1] w fun e W' => AnsEv W' e r1 m1 ∧ Below w.heap.size w W' from by
    have h9 := eRead_any (A1, c1) (lw.take q) w (by rw [List.length_take]; omega) (h.take q)
    rw [show (lw.take q).length = q by rw [List.length_take]; omega, ← hr1, ← hm1] at h9
    exact h9))
  have hcase : (q < 47 ∧ m1 = 3) ∨ (47 ≤ q ∧ m1 = 2) ∨ (47 ≤ q ∧ m1 = 0 ∧ r1 ≠ e ∧ r1.body.length = q - 46) := by
    by_cases h47 : q < 47
    · refine .inl ⟨h47, ?_⟩
      rw [hm1]
      unfold readE
      rw [if_pos (by rw [List.length_take]; omega)]
    · rcases hcut q hqN (by omega) with h5 | ⟨h5, h6, h7⟩
      · exact .inr (.inl ⟨by omega, by rw [hm1]; exact h5⟩)
      · exact .inr (.inr ⟨by omega, by rw [hm1]; exact h5, by rw [hr1]; exact h6, by rw [hr1]; exact h7⟩)
  obtain ⟨r2, hr2⟩ : ∃ r, r = (readE b).1 := ⟨_, rfl⟩
  obtain ⟨m2, hm2⟩ : ∃ r, r = (readE b).2 := ⟨_, rfl⟩
  rw [← hr2, ← hm2] at CR
  have hbase : (b.length < 47 ∧ m2 = 3) ∨ (946 < b.length ∧ m2 = 4) ∨ (47 ≤ b.length ∧ b.length ≤ 946) := by
    by_cases h5 : b.length < 47
    · exact .inl ⟨h5, by rw [hm2]; unfold readE; rw [if_pos h5]⟩
    · by_cases h6 : 946 < b.length
      · exact .inr (.inl ⟨h6, by rw [hm2]; unfold readE; rw [if_neg h5, if_pos h6]⟩)
      · exact .inr (.inr ⟨by omega, by omega⟩)
  clear hlw hr1 hm1 hr2 hm2 hq hcut hp hfe h64 hk
  obtain ⟨N, hNl⟩ : ∃ N, N = lw.length := ⟨_, rfl⟩
  have HNL := Lib.hid hNl.symm
  rw [← hNl] at hN1 hqN i4 i5
  generalize b.length = n at *
  clear hNl h1 h2
  obtain ⟨hN47, hN946⟩ := hN1
  have hN8 : ¬ (N : Int) < 47 := by omega
  have j2 : (q : Int) < (N : Int) := by omega
  have j3 : (0 : Int) ≤ (q : Int) := by omega
  have j4 : ((N : Int) == 0) = false := beq_eq_false_iff_ne.2 (by omega)
  have j1 : ¬ (N : Int) = 0 := by omega
  rcases hcase with ⟨hq47, rfl⟩ | ⟨hq47, rfl⟩ | ⟨hq47, rfl, hne, hbl⟩
  · have k1 : (q : Int) < 47 := by omega
    clear hq47
    rcases hbase with ⟨hb47, rfl⟩ | ⟨hb47, rfl⟩ | ⟨hb47, hb946⟩
    · have b1 : ¬ (47 : Int) ≤ (n : Int) := by omega
      have b2 : (n : Int) ≤ 946 := by omega
      clear hb47
      obtain ⟨V0, hV, hb, hg⟩ := bx1 W 25 (envC x e)
      have HB := Lib.hid hb
      have E := Lib.hid hg
      have HV := Lib.hid hV
      have nRE := Lib.hid (RE.out.go hb)
      clear RE
      have RE := nRE
      clear nRE
      have nKB := Lib.hid (KB.out.go hb)
      clear KB
      have KB := nKB
      clear nKB
      clear hb hg hV
      go_enter Try.func7, Try.ntmps7
      go_upto_region 1 with (fail)
      rw [← HV.out]
      clear HV
      go_wp2_with fail
      refine (shown12_any _).mono ?_
      rintro e w1 ⟨rfl, hb⟩
      have nHB := Lib.hid (belG HB.out hb HB.out.size)
      have nRE := Lib.hid (RE.out.go hb)
      have nKB := Lib.hid (KB.out.go hb)
      have nE := Lib.hid (Bx.go E.out hb)
      clear hb
      clear HB RE KB E
      have HB := nHB
      have RE := nRE
      have KB := nKB
      have E := nE
      clear nHB nRE nKB nE
      go_wp2_with (refine loadX (.tmp 3) W.heap.size (envC x e) tyEnv rfl E.out rfl rfl rfl ?_)
      refine (CF.out _).mono ?_
      rintro e w2 ⟨rfl, hb⟩
      have nHB := Lib.hid (belG HB.out hb HB.out.size)
      have nRE := Lib.hid (RE.out.go hb)
      have nKB := Lib.hid (KB.out.go hb)
      have nE := Lib.hid (Bx.go E.out hb)
      clear hb
      clear HB RE KB E
      have HB := nHB
      have RE := nRE
      have KB := nKB
      have E := nE
      clear nHB nRE nKB nE
      go_wp2_with (refine loadX (.tmp 3) W.heap.size (envC x e) tyEnv rfl E.out rfl rfl rfl ?_)
      refine (CT.out _).mono ?_
      rintro e w3 ⟨rfl, hb⟩
      have nHB := Lib.hid (belG HB.out hb HB.out.size)
      have nRE := Lib.hid (RE.out.go hb)
      have nKB := Lib.hid (KB.out.go hb)
      have nE := Lib.hid (Bx.go E.out hb)
      clear hb
      clear HB RE KB E
      have HB := nHB
      have RE := nRE
      have KB := nKB
      have E := nE
      clear nHB nRE nKB nE
      go_wp2_with (refine loadX (.tmp 3) W.heap.size (envC x e) tyEnv rfl E.out rfl rfl rfl ?_)
      refine (EW.out _ RE.out).mono ?_
      rintro e w4 ⟨⟨v1, rfl, how⟩, hb⟩
      have nHB := Lib.hid (belG HB.out hb HB.out.size)
      have nRE := Lib.hid (RE.out.go hb)
      have nKB := Lib.hid (KB.out.go hb)
      have nE := Lib.hid (Bx.go E.out hb)
      clear hb
      clear HB RE KB E
      have HB := nHB
      have RE := nRE
      have KB := nKB
      have E := nE
      clear nHB nRE nKB nE
      obtain ⟨⟨A1, c1⟩, rfl, hk⟩ := how.keyE
      have j5 : (q : Int) ≤ (c1 : Int) := by have h5 : lw.length ≤ c1 := hk.1; rw [HNL.out] at h5; omega
      have K1 := Lib.hid hk
      clear hk how
      dsimp only
      rw [HNL.out]
      go_wp2_with fail
      refine (CC.out A1 c1 _ K1.out).mono ?_
      rintro e w5 ⟨⟨x2, rfl, hk⟩, hb⟩
      have nHB := Lib.hid (belG HB.out hb HB.out.size)
      have nRE := Lib.hid (RE.out.go hb)
      have nKB := Lib.hid (KB.out.go hb)
      have nK1 := Lib.hid (K1.out.go hb)
      have nE := Lib.hid (Bx.go E.out hb)
      clear hb
      clear HB RE KB K1 E
      have HB := nHB
      have RE := nRE
      have KB := nKB
      have K1 := nK1
      have E := nE
      clear nHB nRE nKB nK1 nE
      have RY := Lib.hid hk
      clear hk j5
      have LB := Lib.hid HB.out.size
      have LTE := Lib.hid (show W.heap.size < w5.heap.size from Bx.lt E.out)
      obtain ⟨V5, hV5⟩ : ∃ V, V = w5.alloc (.cells (envC x2 r1) 25) := ⟨_, rfl⟩
      have ha := (Below.refl w5.heap.size w5).alloc (Nat.le_refl _) (.cells (envC x2 r1) 25)
      have hg := heap_alloc_new w5 (.cells (envC x2 r1) 25)
      have nHB := Lib.hid (HB.out.alloc HB.out.size (.cells (envC x2 r1) 25))
      rw [← hV5] at ha hg nHB
      have nRE := Lib.hid (RE.out.go ha)
      have nKB := Lib.hid (KB.out.go ha)
      have nK1 := Lib.hid (K1.out.go ha)
      have nRY := Lib.hid (RY.out.go ha)
      have nE := Lib.hid (Bx.go E.out ha)
      obtain ⟨y, hy⟩ : ∃ g, g = w5.heap.size := ⟨_, rfl⟩
      rw [← hy] at hg
      have HXY := Lib.hid hy
      have Y := Lib.hid hg
      have HV := Lib.hid hV5
      clear ha hg hV5 hy
      clear HB RE KB K1 RY E
      have HB := nHB
      have RE := nRE
      have KB := nKB
      have K1 := nK1
      have RY := nRY
      have E := nE
      clear nHB nRE nKB nK1 nRY nE
      have LEY := Lib.hid (show W.heap.size ≤ y from by rw [HXY.out]; exact LB.out)
      have NEEY := Lib.hid (show W.heap.size ≠ y from by have h1 := LTE.out; rw [HXY.out]; omega)
      have NEYE := Lib.hid (NEEY.out.symm)
      clear LB LTE
      go_upto_region 9 with (refine storeX (.tmp 11) (.tmp 52) _ (envC x2 r1) _ tyEnv rfl (envC_one _ _) (heap_alloc_new _ _) rfl rfl rfl rfl rfl ?_; rw [setRowG_fold])
      rw [← HV.out]
      (try rw [← HXY.out])
      clear HV HXY
      go_wp2_with fail
      refine (CR.out _ KB.out).mono ?_
      rintro e w6 ⟨⟨x3, rfl, hk⟩, hb⟩
      have nHB := Lib.hid (belG HB.out hb HB.out.size)
      have nRE := Lib.hid (RE.out.go hb)
      have nKB := Lib.hid (KB.out.go hb)
      have nK1 := Lib.hid (K1.out.go hb)
      have nRY := Lib.hid (RY.out.go hb)
      have nE := Lib.hid (Bx.go E.out hb)
      have nY := Lib.hid (Bx.go Y.out hb)
      clear hb
      clear HB RE KB K1 RY E Y
      have HB := nHB
      have RE := nRE
      have KB := nKB
      have K1 := nK1
      have RY := nRY
      have E := nE
      have Y := nY
      clear nHB nRE nKB nK1 nRY nE nY
      have RZ := Lib.hid hk
      clear hk
      have LB := Lib.hid HB.out.size
      have LTE := Lib.hid (show W.heap.size < w6.heap.size from Bx.lt E.out)
      have LTY := Lib.hid (show y < w6.heap.size from Bx.lt Y.out)
      obtain ⟨V6, hV6⟩ : ∃ V, V = w6.alloc (.cells (envC x3 r2) 25) := ⟨_, rfl⟩
      have ha := (Below.refl w6.heap.size w6).alloc (Nat.le_refl _) (.cells (envC x3 r2) 25)
      have hg := heap_alloc_new w6 (.cells (envC x3 r2) 25)
      have nHB := Lib.hid (HB.out.alloc HB.out.size (.cells (envC x3 r2) 25))
      rw [← hV6] at ha hg nHB
      have nRE := Lib.hid (RE.out.go ha)
      have nKB := Lib.hid (KB.out.go ha)
      have nK1 := Lib.hid (K1.out.go ha)
      have nRY := Lib.hid (RY.out.go ha)
      have nRZ := Lib.hid (RZ.out.go ha)
      have nE := Lib.hid (Bx.go E.out ha)
      have nY := Lib.hid (Bx.go Y.out ha)
      obtain ⟨z, hz⟩ : ∃ g, g = w6.heap.size := ⟨_, rfl⟩
      rw [← hz] at hg
      have HXZ := Lib.hid hz
      have Z := Lib.hid hg
      have HV := Lib.hid hV6
      clear ha hg hV6 hz
      clear HB RE KB K1 RY RZ E Y
      have HB := nHB
      have RE := nRE
      have KB := nKB
      have K1 := nK1
      have RY := nRY
      have RZ := nRZ
      have E := nE
      have Y := nY
      clear nHB nRE nKB nK1 nRY nRZ nE nY
      have LEZ := Lib.hid (show W.heap.size ≤ z from by rw [HXZ.out]; exact LB.out)
      have NEEZ := Lib.hid (show W.heap.size ≠ z from by have h1 := LTE.out; rw [HXZ.out]; omega)
      have NEZE := Lib.hid (NEEZ.out.symm)
      have NEYZ := Lib.hid (show y ≠ z from by have h1 := LTY.out; rw [HXZ.out]; omega)
      have NEZY := Lib.hid (NEYZ.out.symm)
      clear LB LTE LTY
      go_upto_region 10 with (refine storeX (.tmp 13) (.tmp 57) _ (envC x3 r2) _ tyEnv rfl (envC_one _ _) (heap_alloc_new _ _) rfl rfl rfl rfl rfl ?_; rw [setRowG_fold])
      rw [← HV.out]
      (try rw [← HXZ.out])
      clear HV HXZ
      go_wp2_with fail
      go_ret
      exact ⟨by first | rfl | (simp; done), HB.out⟩
    · have b1 : (47 : Int) ≤ (n : Int) := by omega
      have b2 : ¬ (n : Int) ≤ 946 := by omega
      clear hb47
      obtain ⟨V0, hV, hb, hg⟩ := bx1 W 25 (envC x e)
      have HB := Lib.hid hb
      have E := Lib.hid hg
      have HV := Lib.hid hV
      have nRE := Lib.hid (RE.out.go hb)
      clear RE
      have RE := nRE
      clear nRE
      have nKB := Lib.hid (KB.out.go hb)
      clear KB
      have KB := nKB
      clear nKB
      clear hb hg hV
      go_enter Try.func7, Try.ntmps7
      go_upto_region 1 with (fail)
      rw [← HV.out]
      clear HV
      go_wp2_with fail
      refine (shown12_any _).mono ?_
      rintro e w1 ⟨rfl, hb⟩
      have nHB := Lib.hid (belG HB.out hb HB.out.size)
      have nRE := Lib.hid (RE.out.go hb)
      have nKB := Lib.hid (KB.out.go hb)
      have nE := Lib.hid (Bx.go E.out hb)
      clear hb
      clear HB RE KB E
      have HB := nHB
      have RE := nRE
      have KB := nKB
      have E := nE
      clear nHB nRE nKB nE
      go_wp2_with (refine loadX (.tmp 3) W.heap.size (envC x e) tyEnv rfl E.out rfl rfl rfl ?_)
      refine (CF.out _).mono ?_
      rintro e w2 ⟨rfl, hb⟩
      have nHB := Lib.hid (belG HB.out hb HB.out.size)
      have nRE := Lib.hid (RE.out.go hb)
      have nKB := Lib.hid (KB.out.go hb)
      have nE := Lib.hid (Bx.go E.out hb)
      clear hb
      clear HB RE KB E
      have HB := nHB
      have RE := nRE
      have KB := nKB
      have E := nE
      clear nHB nRE nKB nE
      go_wp2_with (refine loadX (.tmp 3) W.heap.size (envC x e) tyEnv rfl E.out rfl rfl rfl ?_)
      refine (CT.out _).mono ?_
      rintro e w3 ⟨rfl, hb⟩
      have nHB := Lib.hid (belG HB.out hb HB.out.size)
      have nRE := Lib.hid (RE.out.go hb)
      have nKB := Lib.hid (KB.out.go hb)
      have nE := Lib.hid (Bx.go E.out hb)
      clear hb
      clear HB RE KB E
      have HB := nHB
      have RE := nRE
      have KB := nKB
      have E := nE
      clear nHB nRE nKB nE
      go_wp2_with (refine loadX (.tmp 3) W.heap.size (envC x e) tyEnv rfl E.out rfl rfl rfl ?_)
      refine (EW.out _ RE.out).mono ?_
      rintro e w4 ⟨⟨v1, rfl, how⟩, hb⟩
      have nHB := Lib.hid (belG HB.out hb HB.out.size)
      have nRE := Lib.hid (RE.out.go hb)
      have nKB := Lib.hid (KB.out.go hb)
      have nE := Lib.hid (Bx.go E.out hb)
      clear hb
      clear HB RE KB E
      have HB := nHB
      have RE := nRE
      have KB := nKB
      have E := nE
      clear nHB nRE nKB nE
      obtain ⟨⟨A1, c1⟩, rfl, hk⟩ := how.keyE
      have j5 : (q : Int) ≤ (c1 : Int) := by have h5 : lw.length ≤ c1 := hk.1; rw [HNL.out] at h5; omega
      have K1 := Lib.hid hk
      clear hk how
      dsimp only
      rw [HNL.out]
      go_wp2_with fail
      refine (CC.out A1 c1 _ K1.out).mono ?_
      rintro e w5 ⟨⟨x2, rfl, hk⟩, hb⟩
      have nHB := Lib.hid (belG HB.out hb HB.out.size)
      have nRE := Lib.hid (RE.out.go hb)
      have nKB := Lib.hid (KB.out.go hb)
      have nK1 := Lib.hid (K1.out.go hb)
      have nE := Lib.hid (Bx.go E.out hb)
      clear hb
      clear HB RE KB K1 E
      have HB := nHB
      have RE := nRE
      have KB := nKB
      have K1 := nK1
      have E := nE
      clear nHB nRE nKB nK1 nE
      have RY := Lib.hid hk
      clear hk j5
      have LB := Lib.hid HB.out.size
      have LTE := Lib.hid (show W.heap.size < w5.heap.size from Bx.lt E.out)
      obtain ⟨V5, hV5⟩ : ∃ V, V = w5.alloc (.cells (envC x2 r1) 25) := ⟨_, rfl⟩
      have ha := (Below.refl w5.heap.size w5).alloc (Nat.le_refl _) (.cells (envC x2 r1) 25)
      have hg := heap_alloc_new w5 (.cells (envC x2 r1) 25)
      have nHB := Lib.hid (HB.out.alloc HB.out.size (.cells (envC x2 r1) 25))
      rw [← hV5] at ha hg nHB
      have nRE := Lib.hid (RE.out.go ha)
      have nKB := Lib.hid (KB.out.go ha)
      have nK1 := Lib.hid (K1.out.go ha)
      have nRY := Lib.hid (RY.out.go ha)
      have nE := Lib.hid (Bx.go E.out ha)
      obtain ⟨y, hy⟩ : ∃ g, g = w5.heap.size := ⟨_, rfl⟩
      rw [← hy] at hg
      have HXY := Lib.hid hy
      have Y := Lib.hid hg
      have HV := Lib.hid hV5
      clear ha hg hV5 hy
      clear HB RE KB K1 RY E
      have HB := nHB
      have RE := nRE
      have KB := nKB
      have K1 := nK1
      have RY := nRY
      have E := nE
      clear nHB nRE nKB nK1 nRY nE
      have LEY := Lib.hid (show W.heap.size ≤ y from by rw [HXY.out]; exact LB.out)
      have NEEY := Lib.hid (show W.heap.size ≠ y from by have h1 := LTE.out; rw [HXY.out]; omega)
      have NEYE := Lib.hid (NEEY.out.symm)
      clear LB LTE
      go_upto_region 9 with (refine storeX (.tmp 11) (.tmp 52) _ (envC x2 r1) _ tyEnv rfl (envC_one _ _) (heap_alloc_new _ _) rfl rfl rfl rfl rfl ?_; rw [setRowG_fold])
      rw [← HV.out]
      (try rw [← HXY.out])
      clear HV HXY
      go_wp2_with fail
      refine (CR.out _ KB.out).mono ?_
      rintro e w6 ⟨⟨x3, rfl, hk⟩, hb⟩
      have nHB := Lib.hid (belG HB.out hb HB.out.size)
      have nRE := Lib.hid (RE.out.go hb)
      have nKB := Lib.hid (KB.out.go hb)
      have nK1 := Lib.hid (K1.out.go hb)
      have nRY := Lib.hid (RY.out.go hb)
      have nE := Lib.hid (Bx.go E.out hb)
      have nY := Lib.hid (Bx.go Y.out hb)
      clear hb
      clear HB RE KB K1 RY E Y
      have HB := nHB
      have RE := nRE
      have KB := nKB
      have K1 := nK1
      have RY := nRY
      have E := nE
      have Y := nY
      clear nHB nRE nKB nK1 nRY nE nY
      have RZ := Lib.hid hk
      clear hk
      have LB := Lib.hid HB.out.size
      have LTE := Lib.hid (show W.heap.size < w6.heap.size from Bx.lt E.out)
      have LTY := Lib.hid (show y < w6.heap.size from Bx.lt Y.out)
      obtain ⟨V6, hV6⟩ : ∃ V, V = w6.alloc (.cells (envC x3 r2) 25) := ⟨_, rfl⟩
      have ha := (Below.refl w6.heap.size w6).alloc (Nat.le_refl _) (.cells (envC x3 r2) 25)
      have hg := heap_alloc_new w6 (.cells (envC x3 r2) 25)
      have nHB := Lib.hid (HB.out.alloc HB.out.size (.cells (envC x3 r2) 25))
      rw [← hV6] at ha hg nHB
      have nRE := Lib.hid (RE.out.go ha)
      have nKB := Lib.hid (KB.out.go ha)
      have nK1 := Lib.hid (K1.out.go ha)
      have nRY := Lib.hid (RY.out.go ha)
      have nRZ := Lib.hid (RZ.out.go ha)
      have nE := Lib.hid (Bx.go E.out ha)
      have nY := Lib.hid (Bx.go Y.out ha)
      obtain ⟨z, hz⟩ : ∃ g, g = w6.heap.size := ⟨_, rfl⟩
      rw [← hz] at hg
      have HXZ := Lib.hid hz
      have Z := Lib.hid hg
      have HV := Lib.hid hV6
      clear ha hg hV6 hz
      clear HB RE KB K1 RY RZ E Y
      have HB := nHB
      have RE := nRE
      have KB := nKB
      have K1 := nK1
      have RY := nRY
      have RZ := nRZ
      have E := nE
      have Y := nY
      clear nHB nRE nKB nK1 nRY nRZ nE nY
      have LEZ := Lib.hid (show W.heap.size ≤ z from by rw [HXZ.out]; exact LB.out)
      have NEEZ := Lib.hid (show W.heap.size ≠ z from by have h1 := LTE.out; rw [HXZ.out]; omega)
      have NEZE := Lib.hid (NEEZ.out.symm)
      have NEYZ := Lib.hid (show y ≠ z from by have h1 := LTY.out; rw [HXZ.out]; omega)
      have NEZY := Lib.hid (NEYZ.out.symm)
      clear LB LTE LTY
      go_upto_region 10 with (refine storeX (.tmp 13) (.tmp 57) _ (envC x3 r2) _ tyEnv rfl (envC_one _ _) (heap_alloc_new _ _) rfl rfl rfl rfl rfl ?_; rw [setRowG_fold])
      rw [← HV.out]
      (try rw [← HXZ.out])
      clear HV HXZ
      go_wp2_with fail
      go_ret
      exact ⟨by first | rfl | (simp; done), HB.out⟩
    · have b1 : (47 : Int) ≤ (n : Int) := by omega
      have b2 : (n : Int) ≤ 946 := by omega
      clear hb47 hb946
      obtain ⟨V0, hV, hb, hg⟩ := bx1 W 25 (envC x e)
      have HB := Lib.hid hb
      have E := Lib.hid hg
      have HV := Lib.hid hV
      have nRE := Lib.hid (RE.out.go hb)
      clear RE
      have RE := nRE
      clear nRE
      have nKB := Lib.hid (KB.out.go hb)
      clear KB
      have KB := nKB
      clear nKB
      clear hb hg hV
      go_enter Try.func7, Try.ntmps7
      go_upto_region 1 with (fail)
      rw [← HV.out]
      clear HV
      go_wp2_with fail
      refine (shown12_any _).mono ?_
      rintro e w1 ⟨rfl, hb⟩
      have nHB := Lib.hid (belG HB.out hb HB.out.size)
      have nRE := Lib.hid (RE.out.go hb)
      have nKB := Lib.hid (KB.out.go hb)
      have nE := Lib.hid (Bx.go E.out hb)
      clear hb
      clear HB RE KB E
      have HB := nHB
      have RE := nRE
      have KB := nKB
      have E := nE
      clear nHB nRE nKB nE
      go_wp2_with (refine loadX (.tmp 3) W.heap.size (envC x e) tyEnv rfl E.out rfl rfl rfl ?_)
      refine (CF.out _).mono ?_
      rintro e w2 ⟨rfl, hb⟩
      have nHB := Lib.hid (belG HB.out hb HB.out.size)
      have nRE := Lib.hid (RE.out.go hb)
      have nKB := Lib.hid (KB.out.go hb)
      have nE := Lib.hid (Bx.go E.out hb)
      clear hb
      clear HB RE KB E
      have HB := nHB
      have RE := nRE
      have KB := nKB
      have E := nE
      clear nHB nRE nKB nE
      go_wp2_with (refine loadX (.tmp 3) W.heap.size (envC x e) tyEnv rfl E.out rfl rfl rfl ?_)
      refine (CT.out _).mono ?_
      rintro e w3 ⟨rfl, hb⟩
      have nHB := Lib.hid (belG HB.out hb HB.out.size)
      have nRE := Lib.hid (RE.out.go hb)
      have nKB := Lib.hid (KB.out.go hb)
      have nE := Lib.hid (Bx.go E.out hb)
      clear hb
      clear HB RE KB E
      have HB := nHB
      have RE := nRE
      have KB := nKB
      have E := nE
      clear nHB nRE nKB nE
      go_wp2_with (refine loadX (.tmp 3) W.heap.size (envC x e) tyEnv rfl E.out rfl rfl rfl ?_)
      refine (EW.out _ RE.out).mono ?_
      rintro e w4 ⟨⟨v1, rfl, how⟩, hb⟩
      have nHB := Lib.hid (belG HB.out hb HB.out.size)
      have nRE := Lib.hid (RE.out.go hb)
      have nKB := Lib.hid (KB.out.go hb)
      have nE := Lib.hid (Bx.go E.out hb)
      clear hb
      clear HB RE KB E
      have HB := nHB
      have RE := nRE
      have KB := nKB
      have E := nE
      clear nHB nRE nKB nE
      obtain ⟨⟨A1, c1⟩, rfl, hk⟩ := how.keyE
      have j5 : (q : Int) ≤ (c1 : Int) := by have h5 : lw.length ≤ c1 := hk.1; rw [HNL.out] at h5; omega
      have K1 := Lib.hid hk
      clear hk how
      dsimp only
      rw [HNL.out]
      go_wp2_with fail
      refine (CC.out A1 c1 _ K1.out).mono ?_
      rintro e w5 ⟨⟨x2, rfl, hk⟩, hb⟩
      have nHB := Lib.hid (belG HB.out hb HB.out.size)
      have nRE := Lib.hid (RE.out.go hb)
      have nKB := Lib.hid (KB.out.go hb)
      have nK1 := Lib.hid (K1.out.go hb)
      have nE := Lib.hid (Bx.go E.out hb)
      clear hb
      clear HB RE KB K1 E
      have HB := nHB
      have RE := nRE
      have KB := nKB
      have K1 := nK1
      have E := nE
      clear nHB nRE nKB nK1 nE
      have RY := Lib.hid hk
      clear hk j5
      have LB := Lib.hid HB.out.size
      have LTE := Lib.hid (show W.heap.size < w5.heap.size from Bx.lt E.out)
      obtain ⟨V5, hV5⟩ : ∃ V, V = w5.alloc (.cells (envC x2 r1) 25) := ⟨_, rfl⟩
      have ha := (Below.refl w5.heap.size w5).alloc (Nat.le_refl _) (.cells (envC x2 r1) 25)
      have hg := heap_alloc_new w5 (.cells (envC x2 r1) 25)
      have nHB := Lib.hid (HB.out.alloc HB.out.size (.cells (envC x2 r1) 25))
      rw [← hV5] at ha hg nHB
      have nRE := Lib.hid (RE.out.go ha)
      have nKB := Lib.hid (KB.out.go ha)
      have nK1 := Lib.hid (K1.out.go ha)
      have nRY := Lib.hid (RY.out.go ha)
      have nE := Lib.hid (Bx.go E.out ha)
      obtain ⟨y, hy⟩ : ∃ g, g = w5.heap.size := ⟨_, rfl⟩
      rw [← hy] at hg
      have HXY := Lib.hid hy
      have Y := Lib.hid hg
      have HV := Lib.hid hV5
      clear ha hg hV5 hy
      clear HB RE KB K1 RY E
      have HB := nHB
      have RE := nRE
      have KB := nKB
      have K1 := nK1
      have RY := nRY
      have E := nE
      clear nHB nRE nKB nK1 nRY nE
      have LEY := Lib.hid (show W.heap.size ≤ y from by rw [HXY.out]; exact LB.out)
      have NEEY := Lib.hid (show W.heap.size ≠ y from by have h1 := LTE.out; rw [HXY.out]; omega)
      have NEYE := Lib.hid (NEEY.out.symm)
      clear LB LTE
      go_upto_region 9 with (refine storeX (.tmp 11) (.tmp 52) _ (envC x2 r1) _ tyEnv rfl (envC_one _ _) (heap_alloc_new _ _) rfl rfl rfl rfl rfl ?_; rw [setRowG_fold])
      rw [← HV.out]
      (try rw [← HXY.out])
      clear HV HXY
      go_wp2_with fail
      refine (CR.out _ KB.out).mono ?_
      rintro e w6 ⟨⟨x3, rfl, hk⟩, hb⟩
      have nHB := Lib.hid (belG HB.out hb HB.out.size)
      have nRE := Lib.hid (RE.out.go hb)
      have nKB := Lib.hid (KB.out.go hb)
      have nK1 := Lib.hid (K1.out.go hb)
      have nRY := Lib.hid (RY.out.go hb)
      have nE := Lib.hid (Bx.go E.out hb)
      have nY := Lib.hid (Bx.go Y.out hb)
      clear hb
      clear HB RE KB K1 RY E Y
      have HB := nHB
      have RE := nRE
      have KB := nKB
      have K1 := nK1
      have RY := nRY
      have E := nE
      have Y := nY
      clear nHB nRE nKB nK1 nRY nE nY
      have RZ := Lib.hid hk
      clear hk
      have LB := Lib.hid HB.out.size
      have LTE := Lib.hid (show W.heap.size < w6.heap.size from Bx.lt E.out)
      have LTY := Lib.hid (show y < w6.heap.size from Bx.lt Y.out)
      obtain ⟨V6, hV6⟩ : ∃ V, V = w6.alloc (.cells (envC x3 r2) 25) := ⟨_, rfl⟩
      have ha := (Below.refl w6.heap.size w6).alloc (Nat.le_refl _) (.cells (envC x3 r2) 25)
      have hg := heap_alloc_new w6 (.cells (envC x3 r2) 25)
      have nHB := Lib.hid (HB.out.alloc HB.out.size (.cells (envC x3 r2) 25))
      rw [← hV6] at ha hg nHB
      have nRE := Lib.hid (RE.out.go ha)
      have nKB := Lib.hid (KB.out.go ha)
      have nK1 := Lib.hid (K1.out.go ha)
      have nRY := Lib.hid (RY.out.go ha)
      have nRZ := Lib.hid (RZ.out.go ha)
      have nE := Lib.hid (Bx.go E.out ha)
      have nY := Lib.hid (Bx.go Y.out ha)
      obtain ⟨z, hz⟩ : ∃ g, g = w6.heap.size := ⟨_, rfl⟩
      rw [← hz] at hg
      have HXZ := Lib.hid hz
      have Z := Lib.hid hg
      have HV := Lib.hid hV6
      clear ha hg hV6 hz
      clear HB RE KB K1 RY RZ E Y
      have HB := nHB
      have RE := nRE
      have KB := nKB
      have K1 := nK1
      have RY := nRY
      have RZ := nRZ
      have E := nE
      have Y := nY
      clear nHB nRE nKB nK1 nRY nRZ nE nY
      have LEZ := Lib.hid (show W.heap.size ≤ z from by rw [HXZ.out]; exact LB.out)
      have NEEZ := Lib.hid (show W.heap.size ≠ z from by have h1 := LTE.out; rw [HXZ.out]; omega)
      have NEZE := Lib.hid (NEEZ.out.symm)
      have NEYZ := Lib.hid (show y ≠ z from by have h1 := LTY.out; rw [HXZ.out]; omega)
      have NEZY := Lib.hid (NEYZ.out.symm)
      clear LB LTE LTY
      go_upto_region 10 with (refine storeX (.tmp 13) (.tmp 57) _ (envC x3 r2) _ tyEnv rfl (envC_one _ _) (heap_alloc_new _ _) rfl rfl rfl rfl rfl ?_; rw [setRowG_fold])
      rw [← HV.out]
      (try rw [← HXZ.out])
      clear HV HXZ
      go_wp2_with fail
      go_ret
      exact ⟨by first | rfl | (simp; done), HB.out⟩
  · have k1 : ¬ (q : Int) < 47 := by omega
    have k2 : (47 : Int) ≤ (q : Int) := by omega
    clear hq47
    rcases hbase with ⟨hb47, rfl⟩ | ⟨hb47, rfl⟩ | ⟨hb47, hb946⟩
    · have b1 : ¬ (47 : Int) ≤ (n : Int) := by omega
      have b2 : (n : Int) ≤ 946 := by omega
      clear hb47
      obtain ⟨V0, hV, hb, hg⟩ := bx1 W 25 (envC x e)
      have HB := Lib.hid hb
      have E := Lib.hid hg
      have HV := Lib.hid hV
      have nRE := Lib.hid (RE.out.go hb)
      clear RE
      have RE := nRE
      clear nRE
      have nKB := Lib.hid (KB.out.go hb)
      clear KB
      have KB := nKB
      clear nKB
      clear hb hg hV
      go_enter Try.func7, Try.ntmps7
      go_upto_region 1 with (fail)
      rw [← HV.out]
      clear HV
      go_wp2_with fail
      refine (shown12_any _).mono ?_
      rintro e w1 ⟨rfl, hb⟩
      have nHB := Lib.hid (belG HB.out hb HB.out.size)
      have nRE := Lib.hid (RE.out.go hb)
      have nKB := Lib.hid (KB.out.go hb)
      have nE := Lib.hid (Bx.go E.out hb)
      clear hb
      clear HB RE KB E
      have HB := nHB
      have RE := nRE
      have KB := nKB
      have E := nE
      clear nHB nRE nKB nE
      go_wp2_with (refine loadX (.tmp 3) W.heap.size (envC x e) tyEnv rfl E.out rfl rfl rfl ?_)
      refine (CF.out _).mono ?_
      rintro e w2 ⟨rfl, hb⟩
      have nHB := Lib.hid (belG HB.out hb HB.out.size)
      have nRE := Lib.hid (RE.out.go hb)
      have nKB := Lib.hid (KB.out.go hb)
      have nE := Lib.hid (Bx.go E.out hb)
      clear hb
      clear HB RE KB E
      have HB := nHB
      have RE := nRE
      have KB := nKB
      have E := nE
      clear nHB nRE nKB nE
      go_wp2_with (refine loadX (.tmp 3) W.heap.size (envC x e) tyEnv rfl E.out rfl rfl rfl ?_)
      refine (CT.out _).mono ?_
      rintro e w3 ⟨rfl, hb⟩
      have nHB := Lib.hid (belG HB.out hb HB.out.size)
      have nRE := Lib.hid (RE.out.go hb)
      have nKB := Lib.hid (KB.out.go hb)
      have nE := Lib.hid (Bx.go E.out hb)
      clear hb
      clear HB RE KB E
      have HB := nHB
      have RE := nRE
      have KB := nKB
      have E := nE
      clear nHB nRE nKB nE
      go_wp2_with (refine loadX (.tmp 3) W.heap.size (envC x e) tyEnv rfl E.out rfl rfl rfl ?_)
      refine (EW.out _ RE.out).mono ?_
      rintro e w4 ⟨⟨v1, rfl, how⟩, hb⟩
      have nHB := Lib.hid (belG HB.out hb HB.out.size)
      have nRE := Lib.hid (RE.out.go hb)
      have nKB := Lib.hid (KB.out.go hb)
      have nE := Lib.hid (Bx.go E.out hb)
      clear hb
      clear HB RE KB E
      have HB := nHB
      have RE := nRE
      have KB := nKB
      have E := nE
      clear nHB nRE nKB nE
      obtain ⟨⟨A1, c1⟩, rfl, hk⟩ := how.keyE
      have j5 : (q : Int) ≤ (c1 : Int) := by have h5 : lw.length ≤ c1 := hk.1; rw [HNL.out] at h5; omega
      have K1 := Lib.hid hk
      clear hk how
      dsimp only
      rw [HNL.out]
      go_wp2_with fail
      refine (CC.out A1 c1 _ K1.out).mono ?_
      rintro e w5 ⟨⟨x2, rfl, hk⟩, hb⟩
      have nHB := Lib.hid (belG HB.out hb HB.out.size)
      have nRE := Lib.hid (RE.out.go hb)
      have nKB := Lib.hid (KB.out.go hb)
      have nK1 := Lib.hid (K1.out.go hb)
      have nE := Lib.hid (Bx.go E.out hb)
      clear hb
      clear HB RE KB K1 E
      have HB := nHB
      have RE := nRE
      have KB := nKB
      have K1 := nK1
      have E := nE
      clear nHB nRE nKB nK1 nE
      have RY := Lib.hid hk
      clear hk j5
      have LB := Lib.hid HB.out.size
      have LTE := Lib.hid (show W.heap.size < w5.heap.size from Bx.lt E.out)
      obtain ⟨V5, hV5⟩ : ∃ V, V = w5.alloc (.cells (envC x2 r1) 25) := ⟨_, rfl⟩
      have ha := (Below.refl w5.heap.size w5).alloc (Nat.le_refl _) (.cells (envC x2 r1) 25)
      have hg := heap_alloc_new w5 (.cells (envC x2 r1) 25)
      have nHB := Lib.hid (HB.out.alloc HB.out.size (.cells (envC x2 r1) 25))
      rw [← hV5] at ha hg nHB
      have nRE := Lib.hid (RE.out.go ha)
      have nKB := Lib.hid (KB.out.go ha)
      have nK1 := Lib.hid (K1.out.go ha)
      have nRY := Lib.hid (RY.out.go ha)
      have nE := Lib.hid (Bx.go E.out ha)
      obtain ⟨y, hy⟩ : ∃ g, g = w5.heap.size := ⟨_, rfl⟩
      rw [← hy] at hg
      have HXY := Lib.hid hy
      have Y := Lib.hid hg
      have HV := Lib.hid hV5
      clear ha hg hV5 hy
      clear HB RE KB K1 RY E
      have HB := nHB
      have RE := nRE
      have KB := nKB
      have K1 := nK1
      have RY := nRY
      have E := nE
      clear nHB nRE nKB nK1 nRY nE
      have LEY := Lib.hid (show W.heap.size ≤ y from by rw [HXY.out]; exact LB.out)
      have NEEY := Lib.hid (show W.heap.size ≠ y from by have h1 := LTE.out; rw [HXY.out]; omega)
      have NEYE := Lib.hid (NEEY.out.symm)
      clear LB LTE
      go_upto_region 9 with (refine storeX (.tmp 11) (.tmp 52) _ (envC x2 r1) _ tyEnv rfl (envC_one _ _) (heap_alloc_new _ _) rfl rfl rfl rfl rfl ?_; rw [setRowG_fold])
      rw [← HV.out]
      (try rw [← HXY.out])
      clear HV HXY
      go_wp2_with fail
      refine (CR.out _ KB.out).mono ?_
      rintro e w6 ⟨⟨x3, rfl, hk⟩, hb⟩
      have nHB := Lib.hid (belG HB.out hb HB.out.size)
      have nRE := Lib.hid (RE.out.go hb)
      have nKB := Lib.hid (KB.out.go hb)
      have nK1 := Lib.hid (K1.out.go hb)
      have nRY := Lib.hid (RY.out.go hb)
      have nE := Lib.hid (Bx.go E.out hb)
      have nY := Lib.hid (Bx.go Y.out hb)
      clear hb
      clear HB RE KB K1 RY E Y
      have HB := nHB
      have RE := nRE
      have KB := nKB
      have K1 := nK1
      have RY := nRY
      have E := nE
      have Y := nY
      clear nHB nRE nKB nK1 nRY nE nY
      have RZ := Lib.hid hk
      clear hk
      have LB := Lib.hid HB.out.size
      have LTE := Lib.hid (show W.heap.size < w6.heap.size from Bx.lt E.out)
      have LTY := Lib.hid (show y < w6.heap.size from Bx.lt Y.out)
      obtain ⟨V6, hV6⟩ : ∃ V, V = w6.alloc (.cells (envC x3 r2) 25) := ⟨_, rfl⟩
      have ha := (Below.refl w6.heap.size w6).alloc (Nat.le_refl _) (.cells (envC x3 r2) 25)
      have hg := heap_alloc_new w6 (.cells (envC x3 r2) 25)
      have nHB := Lib.hid (HB.out.alloc HB.out.size (.cells (envC x3 r2) 25))
      rw [← hV6] at ha hg nHB
      have nRE := Lib.hid (RE.out.go ha)
      have nKB := Lib.hid (KB.out.go ha)
      have nK1 := Lib.hid (K1.out.go ha)
      have nRY := Lib.hid (RY.out.go ha)
      have nRZ := Lib.hid (RZ.out.go ha)
      have nE := Lib.hid (Bx.go E.out ha)
      have nY := Lib.hid (Bx.go Y.out ha)
      obtain ⟨z, hz⟩ : ∃ g, g = w6.heap.size := ⟨_, rfl⟩
      rw [← hz] at hg
      have HXZ := Lib.hid hz
      have Z := Lib.hid hg
      have HV := Lib.hid hV6
      clear ha hg hV6 hz
      clear HB RE KB K1 RY RZ E Y
      have HB := nHB
      have RE := nRE
      have KB := nKB
      have K1 := nK1
      have RY := nRY
      have RZ := nRZ
      have E := nE
      have Y := nY
      clear nHB nRE nKB nK1 nRY nRZ nE nY
      have LEZ := Lib.hid (show W.heap.size ≤ z from by rw [HXZ.out]; exact LB.out)
      have NEEZ := Lib.hid (show W.heap.size ≠ z from by have h1 := LTE.out; rw [HXZ.out]; omega)
      have NEZE := Lib.hid (NEEZ.out.symm)
      have NEYZ := Lib.hid (show y ≠ z from by have h1 := LTY.out; rw [HXZ.out]; omega)
      have NEZY := Lib.hid (NEYZ.out.symm)
      clear LB LTE LTY
      go_upto_region 10 with (refine storeX (.tmp 13) (.tmp 57) _ (envC x3 r2) _ tyEnv rfl (envC_one _ _) (heap_alloc_new _ _) rfl rfl rfl rfl rfl ?_; rw [setRowG_fold])
      rw [← HV.out]
      (try rw [← HXZ.out])
      clear HV HXZ
      go_wp2_with fail
      go_ret
      exact ⟨by first | rfl | (simp; done), HB.out⟩
    · have b1 : (47 : Int) ≤ (n : Int) := by omega
      have b2 : ¬ (n : Int) ≤ 946 := by omega
      clear hb47
      obtain ⟨V0, hV, hb, hg⟩ := bx1 W 25 (envC x e)
      have HB := Lib.hid hb
      have E := Lib.hid hg
      have HV := Lib.hid hV
      have nRE := Lib.hid (RE.out.go hb)
      clear RE
      have RE := nRE
      clear nRE
      have nKB := Lib.hid (KB.out.go hb)
      clear KB
      have KB := nKB
      clear nKB
      clear hb hg hV
      go_enter Try.func7, Try.ntmps7
      go_upto_region 1 with (fail)
      rw [← HV.out]
      clear HV
      go_wp2_with fail
      refine (shown12_any _).mono ?_
      rintro e w1 ⟨rfl, hb⟩
      have nHB := Lib.hid (belG HB.out hb HB.out.size)
      have nRE := Lib.hid (RE.out.go hb)
      have nKB := Lib.hid (KB.out.go hb)
      have nE := Lib.hid (Bx.go E.out hb)
      clear hb
      clear HB RE KB E
      have HB := nHB
      have RE := nRE
      have KB := nKB
      have E := nE
      clear nHB nRE nKB nE
      go_wp2_with (refine loadX (.tmp 3) W.heap.size (envC x e) tyEnv rfl E.out rfl rfl rfl ?_)
      refine (CF.out _).mono ?_
      rintro e w2 ⟨rfl, hb⟩
      have nHB := Lib.hid (belG HB.out hb HB.out.size)
      have nRE := Lib.hid (RE.out.go hb)
      have nKB := Lib.hid (KB.out.go hb)
      have nE := Lib.hid (Bx.go E.out hb)
      clear hb
      clear HB RE KB E
      have HB := nHB
      have RE := nRE
      have KB := nKB
      have E := nE
      clear nHB nRE nKB nE
      go_wp2_with (refine loadX (.tmp 3) W.heap.size (envC x e) tyEnv rfl E.out rfl rfl rfl ?_)
      refine (CT.out _).mono ?_
      rintro e w3 ⟨rfl, hb⟩
      have nHB := Lib.hid (belG HB.out hb HB.out.size)
      have nRE := Lib.hid (RE.out.go hb)
      have nKB := Lib.hid (KB.out.go hb)
      have nE := Lib.hid (Bx.go E.out hb)
      clear hb
      clear HB RE KB E
      have HB := nHB
      have RE := nRE
      have KB := nKB
      have E := nE
      clear nHB nRE nKB nE
      go_wp2_with (refine loadX (.tmp 3) W.heap.size (envC x e) tyEnv rfl E.out rfl rfl rfl ?_)
      refine (EW.out _ RE.out).mono ?_
      rintro e w4 ⟨⟨v1, rfl, how⟩, hb⟩
      have nHB := Lib.hid (belG HB.out hb HB.out.size)
      have nRE := Lib.hid (RE.out.go hb)
      have nKB := Lib.hid (KB.out.go hb)
      have nE := Lib.hid (Bx.go E.out hb)
      clear hb
      clear HB RE KB E
      have HB := nHB
      have RE := nRE
      have KB := nKB
      have E := nE
      clear nHB nRE nKB nE
      obtain ⟨⟨A1, c1⟩, rfl, hk⟩ := how.keyE
      have j5 : (q : Int) ≤ (c1 : Int) := by have h5 : lw.length ≤ c1 := hk.1; rw [HNL.out] at h5; omega
      have K1 := Lib.hid hk
      clear hk how
      dsimp only
      rw [HNL.out]
      go_wp2_with fail
      refine (CC.out A1 c1 _ K1.out).mono ?_
      rintro e w5 ⟨⟨x2, rfl, hk⟩, hb⟩
      have nHB := Lib.hid (belG HB.out hb HB.out.size)
      have nRE := Lib.hid (RE.out.go hb)
      have nKB := Lib.hid (KB.out.go hb)
      have nK1 := Lib.hid (K1.out.go hb)
      have nE := Lib.hid (Bx.go E.out hb)
      clear hb
      clear HB RE KB K1 E
      have HB := nHB
      have RE := nRE
      have KB := nKB
      have K1 := nK1
      have E := nE
      clear nHB nRE nKB nK1 nE
      have RY := Lib.hid hk
      clear hk j5
      have LB := Lib.hid HB.out.size
      have LTE := Lib.hid (show W.heap.size < w5.heap.size from Bx.lt E.out)
      obtain ⟨V5, hV5⟩ : ∃ V, V = w5.alloc (.cells (envC x2 r1) 25) := ⟨_, rfl⟩
      have ha := (Below.refl w5.heap.size w5).alloc (Nat.le_refl _) (.cells (envC x2 r1) 25)
      have hg := heap_alloc_new w5 (.cells (envC x2 r1) 25)
      have nHB := Lib.hid (HB.out.alloc HB.out.size (.cells (envC x2 r1) 25))
      rw [← hV5] at ha hg nHB
      have nRE := Lib.hid (RE.out.go ha)
      have nKB := Lib.hid (KB.out.go ha)
      have nK1 := Lib.hid (K1.out.go ha)
      have nRY := Lib.hid (RY.out.go ha)
      have nE := Lib.hid (Bx.go E.out ha)
      obtain ⟨y, hy⟩ : ∃ g, g = w5.heap.size := ⟨_, rfl⟩
      rw [← hy] at hg
      have HXY := Lib.hid hy
      have Y := Lib.hid hg
      have HV := Lib.hid hV5
      clear ha hg hV5 hy
      clear HB RE KB K1 RY E
      have HB := nHB
      have RE := nRE
      have KB := nKB
      have K1 := nK1
      have RY := nRY
      have E := nE
      clear nHB nRE nKB nK1 nRY nE
      have LEY := Lib.hid (show W.heap.size ≤ y from by rw [HXY.out]; exact LB.out)
      have NEEY := Lib.hid (show W.heap.size ≠ y from by have h1 := LTE.out; rw [HXY.out]; omega)
      have NEYE := Lib.hid (NEEY.out.symm)
      clear LB LTE
      go_upto_region 9 with (refine storeX (.tmp 11) (.tmp 52) _ (envC x2 r1) _ tyEnv rfl (envC_one _ _) (heap_alloc_new _ _) rfl rfl rfl rfl rfl ?_; rw [setRowG_fold])
      rw [← HV.out]
      (try rw [← HXY.out])
      clear HV HXY
      go_wp2_with fail
      refine (CR.out _ KB.out).mono ?_
      rintro e w6 ⟨⟨x3, rfl, hk⟩, hb⟩
      have nHB := Lib.hid (belG HB.out hb HB.out.size)
      have nRE := Lib.hid (RE.out.go hb)
      have nKB := Lib.hid (KB.out.go hb)
      have nK1 := Lib.hid (K1.out.go hb)
      have nRY := Lib.hid (RY.out.go hb)
      have nE := Lib.hid (Bx.go E.out hb)
      have nY := Lib.hid (Bx.go Y.out hb)
      clear hb
      clear HB RE KB K1 RY E Y
      have HB := nHB
      have RE := nRE
      have KB := nKB
      have K1 := nK1
      have RY := nRY
      have E := nE
      have Y := nY
      clear nHB nRE nKB nK1 nRY nE nY
      have RZ := Lib.hid hk
      clear hk
      have LB := Lib.hid HB.out.size
      have LTE := Lib.hid (show W.heap.size < w6.heap.size from Bx.lt E.out)
      have LTY := Lib.hid (show y < w6.heap.size from Bx.lt Y.out)
      obtain ⟨V6, hV6⟩ : ∃ V, V = w6.alloc (.cells (envC x3 r2) 25) := ⟨_, rfl⟩
      have ha := (Below.refl w6.heap.size w6).alloc (Nat.le_refl _) (.cells (envC x3 r2) 25)
      have hg := heap_alloc_new w6 (.cells (envC x3 r2) 25)
      have nHB := Lib.hid (HB.out.alloc HB.out.size (.cells (envC x3 r2) 25))
      rw [← hV6] at ha hg nHB
      have nRE := Lib.hid (RE.out.go ha)
      have nKB := Lib.hid (KB.out.go ha)
      have nK1 := Lib.hid (K1.out.go ha)
      have nRY := Lib.hid (RY.out.go ha)
      have nRZ := Lib.hid (RZ.out.go ha)
      have nE := Lib.hid (Bx.go E.out ha)
      have nY := Lib.hid (Bx.go Y.out ha)
      obtain ⟨z, hz⟩ : ∃ g, g = w6.heap.size := ⟨_, rfl⟩
      rw [← hz] at hg
      have HXZ := Lib.hid hz
      have Z := Lib.hid hg
      have HV := Lib.hid hV6
      clear ha hg hV6 hz
      clear HB RE KB K1 RY RZ E Y
      have HB := nHB
      have RE := nRE
      have KB := nKB
      have K1 := nK1
      have RY := nRY
      have RZ := nRZ
      have E := nE
      have Y := nY
      clear nHB nRE nKB nK1 nRY nRZ nE nY
      have LEZ := Lib.hid (show W.heap.size ≤ z from by rw [HXZ.out]; exact LB.out)
      have NEEZ := Lib.hid (show W.heap.size ≠ z from by have h1 := LTE.out; rw [HXZ.out]; omega)
      have NEZE := Lib.hid (NEEZ.out.symm)
      have NEYZ := Lib.hid (show y ≠ z from by have h1 := LTY.out; rw [HXZ.out]; omega)
      have NEZY := Lib.hid (NEYZ.out.symm)
      clear LB LTE LTY
      go_upto_region 10 with (refine storeX (.tmp 13) (.tmp 57) _ (envC x3 r2) _ tyEnv rfl (envC_one _ _) (heap_alloc_new _ _) rfl rfl rfl rfl rfl ?_; rw [setRowG_fold])
      rw [← HV.out]
      (try rw [← HXZ.out])
      clear HV HXZ
      go_wp2_with fail
      go_ret
      exact ⟨by first | rfl | (simp; done), HB.out⟩
    · have b1 : (47 : Int) ≤ (n : Int) := by omega
      have b2 : (n : Int) ≤ 946 := by omega
      clear hb47 hb946
      obtain ⟨V0, hV, hb, hg⟩ := bx1 W 25 (envC x e)
      have HB := Lib.hid hb
      have E := Lib.hid hg
      have HV := Lib.hid hV
      have nRE := Lib.hid (RE.out.go hb)
      clear RE
      have RE := nRE
      clear nRE
      have nKB := Lib.hid (KB.out.go hb)
      clear KB
      have KB := nKB
      clear nKB
      clear hb hg hV
      go_enter Try.func7, Try.ntmps7
      go_upto_region 1 with (fail)
      rw [← HV.out]
      clear HV
      go_wp2_with fail
      refine (shown12_any _).mono ?_
      rintro e w1 ⟨rfl, hb⟩
      have nHB := Lib.hid (belG HB.out hb HB.out.size)
      have nRE := Lib.hid (RE.out.go hb)
      have nKB := Lib.hid (KB.out.go hb)
      have nE := Lib.hid (Bx.go E.out hb)
      clear hb
      clear HB RE KB E
      have HB := nHB
      have RE := nRE
      have KB := nKB
      have E := nE
      clear nHB nRE nKB nE
      go_wp2_with (refine loadX (.tmp 3) W.heap.size (envC x e) tyEnv rfl E.out rfl rfl rfl ?_)
      refine (CF.out _).mono ?_
      rintro e w2 ⟨rfl, hb⟩
      have nHB := Lib.hid (belG HB.out hb HB.out.size)
      have nRE := Lib.hid (RE.out.go hb)
      have nKB := Lib.hid (KB.out.go hb)
      have nE := Lib.hid (Bx.go E.out hb)
      clear hb
      clear HB RE KB E
      have HB := nHB
      have RE := nRE
      have KB := nKB
      have E := nE
      clear nHB nRE nKB nE
      go_wp2_with (refine loadX (.tmp 3) W.heap.size (envC x e) tyEnv rfl E.out rfl rfl rfl ?_)
      refine (CT.out _).mono ?_
      rintro e w3 ⟨rfl, hb⟩
      have nHB := Lib.hid (belG HB.out hb HB.out.size)
      have nRE := Lib.hid (RE.out.go hb)
      have nKB := Lib.hid (KB.out.go hb)
      have nE := Lib.hid (Bx.go E.out hb)
      clear hb
      clear HB RE KB E
      have HB := nHB
      have RE := nRE
      have KB := nKB
      have E := nE
      clear nHB nRE nKB nE
      go_wp2_with (refine loadX (.tmp 3) W.heap.size (envC x e) tyEnv rfl E.out rfl rfl rfl ?_)
      refine (EW.out _ RE.out).mono ?_
      rintro e w4 ⟨⟨v1, rfl, how⟩, hb⟩
      have nHB := Lib.hid (belG HB.out hb HB.out.size)
      have nRE := Lib.hid (RE.out.go hb)
      have nKB := Lib.hid (KB.out.go hb)
      have nE := Lib.hid (Bx.go E.out hb)
      clear hb
      clear HB RE KB E
      have HB := nHB
      have RE := nRE
      have KB := nKB
      have E := nE
      clear nHB nRE nKB nE
      obtain ⟨⟨A1, c1⟩, rfl, hk⟩ := how.keyE
      have j5 : (q : Int) ≤ (c1 : Int) := by have h5 : lw.length ≤ c1 := hk.1; rw [HNL.out] at h5; omega
      have K1 := Lib.hid hk
      clear hk how
      dsimp only
      rw [HNL.out]
      go_wp2_with fail
      refine (CC.out A1 c1 _ K1.out).mono ?_
      rintro e w5 ⟨⟨x2, rfl, hk⟩, hb⟩
      have nHB := Lib.hid (belG HB.out hb HB.out.size)
      have nRE := Lib.hid (RE.out.go hb)
      have nKB := Lib.hid (KB.out.go hb)
      have nK1 := Lib.hid (K1.out.go hb)
      have nE := Lib.hid (Bx.go E.out hb)
      clear hb
      clear HB RE KB K1 E
      have HB := nHB
      have RE := nRE
      have KB := nKB
      have K1 := nK1
      have E := nE
      clear nHB nRE nKB nK1 nE
      have RY := Lib.hid hk
      clear hk j5
      have LB := Lib.hid HB.out.size
      have LTE := Lib.hid (show W.heap.size < w5.heap.size from Bx.lt E.out)
      obtain ⟨V5, hV5⟩ : ∃ V, V = w5.alloc (.cells (envC x2 r1) 25) := ⟨_, rfl⟩
      have ha := (Below.refl w5.heap.size w5).alloc (Nat.le_refl _) (.cells (envC x2 r1) 25)
      have hg := heap_alloc_new w5 (.cells (envC x2 r1) 25)
      have nHB := Lib.hid (HB.out.alloc HB.out.size (.cells (envC x2 r1) 25))
      rw [← hV5] at ha hg nHB
      have nRE := Lib.hid (RE.out.go ha)
      have nKB := Lib.hid (KB.out.go ha)
      have nK1 := Lib.hid (K1.out.go ha)
      have nRY := Lib.hid (RY.out.go ha)
      have nE := Lib.hid (Bx.go E.out ha)
      obtain ⟨y, hy⟩ : ∃ g, g = w5.heap.size := ⟨_, rfl⟩
      rw [← hy] at hg
      have HXY := Lib.hid hy
      have Y := Lib.hid hg
      have HV := Lib.hid hV5
      clear ha hg hV5 hy
      clear HB RE KB K1 RY E
      have HB := nHB
      have RE := nRE
      have KB := nKB
      have K1 := nK1
      have RY := nRY
      have E := nE
      clear nHB nRE nKB nK1 nRY nE
      have LEY := Lib.hid (show W.heap.size ≤ y from by rw [HXY.out]; exact LB.out)
      have NEEY := Lib.hid (show W.heap.size ≠ y from by have h1 := LTE.out; rw [HXY.out]; omega)
      have NEYE := Lib.hid (NEEY.out.symm)
      clear LB LTE
      go_upto_region 9 with (refine storeX (.tmp 11) (.tmp 52) _ (envC x2 r1) _ tyEnv rfl (envC_one _ _) (heap_alloc_new _ _) rfl rfl rfl rfl rfl ?_; rw [setRowG_fold])
      rw [← HV.out]
      (try rw [← HXY.out])
      clear HV HXY
      go_wp2_with fail
      refine (CR.out _ KB.out).mono ?_
      rintro e w6 ⟨⟨x3, rfl, hk⟩, hb⟩
      have nHB := Lib.hid (belG HB.out hb HB.out.size)
      have nRE := Lib.hid (RE.out.go hb)
      have nKB := Lib.hid (KB.out.go hb)
      have nK1 := Lib.hid (K1.out.go hb)
      have nRY := Lib.hid (RY.out.go hb)
      have nE := Lib.hid (Bx.go E.out hb)
      have nY := Lib.hid (Bx.go Y.out hb)
      clear hb
      clear HB RE KB K1 RY E Y
      have HB := nHB
      have RE := nRE
      have KB := nKB
      have K1 := nK1
      have RY := nRY
      have E := nE
      have Y := nY
      clear nHB nRE nKB nK1 nRY nE nY
      have RZ := Lib.hid hk
      clear hk
      have LB := Lib.hid HB.out.size
      have LTE := Lib.hid (show W.heap.size < w6.heap.size from Bx.lt E.out)
      have LTY := Lib.hid (show y < w6.heap.size from Bx.lt Y.out)
      obtain ⟨V6, hV6⟩ : ∃ V, V = w6.alloc (.cells (envC x3 r2) 25) := ⟨_, rfl⟩
      have ha := (Below.refl w6.heap.size w6).alloc (Nat.le_refl _) (.cells (envC x3 r2) 25)
      have hg := heap_alloc_new w6 (.cells (envC x3 r2) 25)
      have nHB := Lib.hid (HB.out.alloc HB.out.size (.cells (envC x3 r2) 25))
      rw [← hV6] at ha hg nHB
      have nRE := Lib.hid (RE.out.go ha)
      have nKB := Lib.hid (KB.out.go ha)
      have nK1 := Lib.hid (K1.out.go ha)
      have nRY := Lib.hid (RY.out.go ha)
      have nRZ := Lib.hid (RZ.out.go ha)
      have nE := Lib.hid (Bx.go E.out ha)
      have nY := Lib.hid (Bx.go Y.out ha)
      obtain ⟨z, hz⟩ : ∃ g, g = w6.heap.size := ⟨_, rfl⟩
      rw [← hz] at hg
      have HXZ := Lib.hid hz
      have Z := Lib.hid hg
      have HV := Lib.hid hV6
      clear ha hg hV6 hz
      clear HB RE KB K1 RY RZ E Y
      have HB := nHB
      have RE := nRE
      have KB := nKB
      have K1 := nK1
      have RY := nRY
      have RZ := nRZ
      have E := nE
      have Y := nY
      clear nHB nRE nKB nK1 nRY nRZ nE nY
      have LEZ := Lib.hid (show W.heap.size ≤ z from by rw [HXZ.out]; exact LB.out)
      have NEEZ := Lib.hid (show W.heap.size ≠ z from by have h1 := LTE.out; rw [HXZ.out]; omega)
      have NEZE := Lib.hid (NEEZ.out.symm)
      have NEYZ := Lib.hid (show y ≠ z from by have h1 := LTY.out; rw [HXZ.out]; omega)
      have NEZY := Lib.hid (NEYZ.out.symm)
      clear LB LTE LTY
      go_upto_region 10 with (refine storeX (.tmp 13) (.tmp 57) _ (envC x3 r2) _ tyEnv rfl (envC_one _ _) (heap_alloc_new _ _) rfl rfl rfl rfl rfl ?_; rw [setRowG_fold])
      rw [← HV.out]
      (try rw [← HXZ.out])
      clear HV HXZ
      go_wp2_with fail
      go_ret
      exact ⟨by first | rfl | (simp; done), HB.out⟩
  · have k1 : ¬ (q : Int) < 47 := by omega
    have k2 : (47 : Int) ≤ (q : Int) := by omega
    have DS := Lib.hid (fun u w h k => same12_any u x r1 e w h k)
    rw [decide_eq_false hne] at DS
    obtain ⟨m46, hm46⟩ : ∃ m, m = q - 46 := ⟨_, rfl⟩
    have HM := Lib.hid (show r1.body.length = m46 from by rw [hbl, hm46])
    have k3 : (q : Int) - 46 = (m46 : Int) := by omega
    clear hq47 hne hbl hm46
    rcases hbase with ⟨hb47, rfl⟩ | ⟨hb47, rfl⟩ | ⟨hb47, hb946⟩
    · have b1 : ¬ (47 : Int) ≤ (n : Int) := by omega
      have b2 : (n : Int) ≤ 946 := by omega
      clear hb47
      obtain ⟨V0, hV, hb, hg⟩ := bx1 W 25 (envC x e)
      have HB := Lib.hid hb
      have E := Lib.hid hg
      have HV := Lib.hid hV
      have nRE := Lib.hid (RE.out.go hb)
      clear RE
      have RE := nRE
      clear nRE
      have nKB := Lib.hid (KB.out.go hb)
      clear KB
      have KB := nKB
      clear nKB
      clear hb hg hV
      go_enter Try.func7, Try.ntmps7
      go_upto_region 1 with (fail)
      rw [← HV.out]
      clear HV
      go_wp2_with fail
      refine (shown12_any _).mono ?_
      rintro e w1 ⟨rfl, hb⟩
      have nHB := Lib.hid (belG HB.out hb HB.out.size)
      have nRE := Lib.hid (RE.out.go hb)
      have nKB := Lib.hid (KB.out.go hb)
      have nE := Lib.hid (Bx.go E.out hb)
      clear hb
      clear HB RE KB E
      have HB := nHB
      have RE := nRE
      have KB := nKB
      have E := nE
      clear nHB nRE nKB nE
      go_wp2_with (refine loadX (.tmp 3) W.heap.size (envC x e) tyEnv rfl E.out rfl rfl rfl ?_)
      refine (CF.out _).mono ?_
      rintro e w2 ⟨rfl, hb⟩
      have nHB := Lib.hid (belG HB.out hb HB.out.size)
      have nRE := Lib.hid (RE.out.go hb)
      have nKB := Lib.hid (KB.out.go hb)
      have nE := Lib.hid (Bx.go E.out hb)
      clear hb
      clear HB RE KB E
      have HB := nHB
      have RE := nRE
      have KB := nKB
      have E := nE
      clear nHB nRE nKB nE
      go_wp2_with (refine loadX (.tmp 3) W.heap.size (envC x e) tyEnv rfl E.out rfl rfl rfl ?_)
      refine (CT.out _).mono ?_
      rintro e w3 ⟨rfl, hb⟩
      have nHB := Lib.hid (belG HB.out hb HB.out.size)
      have nRE := Lib.hid (RE.out.go hb)
      have nKB := Lib.hid (KB.out.go hb)
      have nE := Lib.hid (Bx.go E.out hb)
      clear hb
      clear HB RE KB E
      have HB := nHB
      have RE := nRE
      have KB := nKB
      have E := nE
      clear nHB nRE nKB nE
      go_wp2_with (refine loadX (.tmp 3) W.heap.size (envC x e) tyEnv rfl E.out rfl rfl rfl ?_)
      refine (EW.out _ RE.out).mono ?_
      rintro e w4 ⟨⟨v1, rfl, how⟩, hb⟩
      have nHB := Lib.hid (belG HB.out hb HB.out.size)
      have nRE := Lib.hid (RE.out.go hb)
      have nKB := Lib.hid (KB.out.go hb)
      have nE := Lib.hid (Bx.go E.out hb)
      clear hb
      clear HB RE KB E
      have HB := nHB
      have RE := nRE
      have KB := nKB
      have E := nE
      clear nHB nRE nKB nE
      obtain ⟨⟨A1, c1⟩, rfl, hk⟩ := how.keyE
      have j5 : (q : Int) ≤ (c1 : Int) := by have h5 : lw.length ≤ c1 := hk.1; rw [HNL.out] at h5; omega
      have K1 := Lib.hid hk
      clear hk how
      dsimp only
      rw [HNL.out]
      go_wp2_with fail
      refine (CC.out A1 c1 _ K1.out).mono ?_
      rintro e w5 ⟨⟨x2, rfl, hk⟩, hb⟩
      have nHB := Lib.hid (belG HB.out hb HB.out.size)
      have nRE := Lib.hid (RE.out.go hb)
      have nKB := Lib.hid (KB.out.go hb)
      have nK1 := Lib.hid (K1.out.go hb)
      have nE := Lib.hid (Bx.go E.out hb)
      clear hb
      clear HB RE KB K1 E
      have HB := nHB
      have RE := nRE
      have KB := nKB
      have K1 := nK1
      have E := nE
      clear nHB nRE nKB nK1 nE
      have RY := Lib.hid hk
      clear hk j5
      have LB := Lib.hid HB.out.size
      have LTE := Lib.hid (show W.heap.size < w5.heap.size from Bx.lt E.out)
      obtain ⟨V5, hV5⟩ : ∃ V, V = w5.alloc (.cells (envC x2 r1) 25) := ⟨_, rfl⟩
      have ha := (Below.refl w5.heap.size w5).alloc (Nat.le_refl _) (.cells (envC x2 r1) 25)
      have hg := heap_alloc_new w5 (.cells (envC x2 r1) 25)
      have nHB := Lib.hid (HB.out.alloc HB.out.size (.cells (envC x2 r1) 25))
      rw [← hV5] at ha hg nHB
      have nRE := Lib.hid (RE.out.go ha)
      have nKB := Lib.hid (KB.out.go ha)
      have nK1 := Lib.hid (K1.out.go ha)
      have nRY := Lib.hid (RY.out.go ha)
      have nE := Lib.hid (Bx.go E.out ha)
      obtain ⟨y, hy⟩ : ∃ g, g = w5.heap.size := ⟨_, rfl⟩
      rw [← hy] at hg
      have HXY := Lib.hid hy
      have Y := Lib.hid hg
      have HV := Lib.hid hV5
      clear ha hg hV5 hy
      clear HB RE KB K1 RY E
      have HB := nHB
      have RE := nRE
      have KB := nKB
      have K1 := nK1
      have RY := nRY
      have E := nE
      clear nHB nRE nKB nK1 nRY nE
      have LEY := Lib.hid (show W.heap.size ≤ y from by rw [HXY.out]; exact LB.out)
      have NEEY := Lib.hid (show W.heap.size ≠ y from by have h1 := LTE.out; rw [HXY.out]; omega)
      have NEYE := Lib.hid (NEEY.out.symm)
      clear LB LTE
      go_upto_region 9 with (refine storeX (.tmp 11) (.tmp 52) _ (envC x2 r1) _ tyEnv rfl (envC_one _ _) (heap_alloc_new _ _) rfl rfl rfl rfl rfl ?_; rw [setRowG_fold])
      rw [← HV.out]
      (try rw [← HXY.out])
      clear HV HXY
      go_wp2_with fail
      refine (CR.out _ KB.out).mono ?_
      rintro e w6 ⟨⟨x3, rfl, hk⟩, hb⟩
      have nHB := Lib.hid (belG HB.out hb HB.out.size)
      have nRE := Lib.hid (RE.out.go hb)
      have nKB := Lib.hid (KB.out.go hb)
      have nK1 := Lib.hid (K1.out.go hb)
      have nRY := Lib.hid (RY.out.go hb)
      have nE := Lib.hid (Bx.go E.out hb)
      have nY := Lib.hid (Bx.go Y.out hb)
      clear hb
      clear HB RE KB K1 RY E Y
      have HB := nHB
      have RE := nRE
      have KB := nKB
      have K1 := nK1
      have RY := nRY
      have E := nE
      have Y := nY
      clear nHB nRE nKB nK1 nRY nE nY
      have RZ := Lib.hid hk
      clear hk
      have LB := Lib.hid HB.out.size
      have LTE := Lib.hid (show W.heap.size < w6.heap.size from Bx.lt E.out)
      have LTY := Lib.hid (show y < w6.heap.size from Bx.lt Y.out)
      obtain ⟨V6, hV6⟩ : ∃ V, V = w6.alloc (.cells (envC x3 r2) 25) := ⟨_, rfl⟩
      have ha := (Below.refl w6.heap.size w6).alloc (Nat.le_refl _) (.cells (envC x3 r2) 25)
      have hg := heap_alloc_new w6 (.cells (envC x3 r2) 25)
      have nHB := Lib.hid (HB.out.alloc HB.out.size (.cells (envC x3 r2) 25))
      rw [← hV6] at ha hg nHB
      have nRE := Lib.hid (RE.out.go ha)
      have nKB := Lib.hid (KB.out.go ha)
      have nK1 := Lib.hid (K1.out.go ha)
      have nRY := Lib.hid (RY.out.go ha)
      have nRZ := Lib.hid (RZ.out.go ha)
      have nE := Lib.hid (Bx.go E.out ha)
      have nY := Lib.hid (Bx.go Y.out ha)
      obtain ⟨z, hz⟩ : ∃ g, g = w6.heap.size := ⟨_, rfl⟩
      rw [← hz] at hg
      have HXZ := Lib.hid hz
      have Z := Lib.hid hg
      have HV := Lib.hid hV6
      clear ha hg hV6 hz
      clear HB RE KB K1 RY RZ E Y
      have HB := nHB
      have RE := nRE
      have KB := nKB
      have K1 := nK1
      have RY := nRY
      have RZ := nRZ
      have E := nE
      have Y := nY
      clear nHB nRE nKB nK1 nRY nRZ nE nY
      have LEZ := Lib.hid (show W.heap.size ≤ z from by rw [HXZ.out]; exact LB.out)
      have NEEZ := Lib.hid (show W.heap.size ≠ z from by have h1 := LTE.out; rw [HXZ.out]; omega)
      have NEZE := Lib.hid (NEEZ.out.symm)
      have NEYZ := Lib.hid (show y ≠ z from by have h1 := LTY.out; rw [HXZ.out]; omega)
      have NEZY := Lib.hid (NEYZ.out.symm)
      clear LB LTE LTY
      go_upto_region 10 with (refine storeX (.tmp 13) (.tmp 57) _ (envC x3 r2) _ tyEnv rfl (envC_one _ _) (heap_alloc_new _ _) rfl rfl rfl rfl rfl ?_; rw [setRowG_fold])
      rw [← HV.out]
      (try rw [← HXZ.out])
      clear HV HXZ
      go_wp2_with (first | (refine loadX (.tmp 11) y (envC x2 r1) tyEnv rfl Y.out rfl rfl rfl ?_) | (refine loadX (.tmp 3) W.heap.size (envC x e) tyEnv rfl E.out rfl rfl rfl ?_))
      refine (DS.out x2 _ RY.out RE.out).mono ?_
      rintro e w7 ⟨rfl, hb⟩
      have nHB := Lib.hid (belG HB.out hb HB.out.size)
      have nRE := Lib.hid (RE.out.go hb)
      have nKB := Lib.hid (KB.out.go hb)
      have nK1 := Lib.hid (K1.out.go hb)
      have nRY := Lib.hid (RY.out.go hb)
      have nRZ := Lib.hid (RZ.out.go hb)
      have nE := Lib.hid (Bx.go E.out hb)
      have nY := Lib.hid (Bx.go Y.out hb)
      have nZ := Lib.hid (Bx.go Z.out hb)
      clear hb
      clear HB RE KB K1 RY RZ E Y Z
      have HB := nHB
      have RE := nRE
      have KB := nKB
      have K1 := nK1
      have RY := nRY
      have RZ := nRZ
      have E := nE
      have Y := nY
      have Z := nZ
      clear nHB nRE nKB nK1 nRY nRZ nE nY nZ
      have a6 := Bx.cell Y.out (show (envC x2 r1)[6]? = some (.slice x2.body.1 m46 x2.body.2) from by rw [← HM.out]; rfl)
      go_wp2_with fail
      go_ret
      exact ⟨by first | rfl | (simp; done), HB.out⟩
    · have b1 : (47 : Int) ≤ (n : Int) := by omega
      have b2 : ¬ (n : Int) ≤ 946 := by omega
      clear hb47
      obtain ⟨V0, hV, hb, hg⟩ := bx1 W 25 (envC x e)
      have HB := Lib.hid hb
      have E := Lib.hid hg
      have HV := Lib.hid hV
      have nRE := Lib.hid (RE.out.go hb)
      clear RE
      have RE := nRE
      clear nRE
      have nKB := Lib.hid (KB.out.go hb)
      clear KB
      have KB := nKB
      clear nKB
      clear hb hg hV
      go_enter Try.func7, Try.ntmps7
      go_upto_region 1 with (fail)
      rw [← HV.out]
      clear HV
      go_wp2_with fail
      refine (shown12_any _).mono ?_
      rintro e w1 ⟨rfl, hb⟩
      have nHB := Lib.hid (belG HB.out hb HB.out.size)
      have nRE := Lib.hid (RE.out.go hb)
      have nKB := Lib.hid (KB.out.go hb)
      have nE := Lib.hid (Bx.go E.out hb)
      clear hb
      clear HB RE KB E
      have HB := nHB
      have RE := nRE
      have KB := nKB
      have E := nE
      clear nHB nRE nKB nE
      go_wp2_with (refine loadX (.tmp 3) W.heap.size (envC x e) tyEnv rfl E.out rfl rfl rfl ?_)
      refine (CF.out _).mono ?_
      rintro e w2 ⟨rfl, hb⟩
      have nHB := Lib.hid (belG HB.out hb HB.out.size)
      have nRE := Lib.hid (RE.out.go hb)
      have nKB := Lib.hid (KB.out.go hb)
      have nE := Lib.hid (Bx.go E.out hb)
      clear hb
      clear HB RE KB E
      have HB := nHB
      have RE := nRE
      have KB := nKB
      have E := nE
      clear nHB nRE nKB nE
      go_wp2_with (refine loadX (.tmp 3) W.heap.size (envC x e) tyEnv rfl E.out rfl rfl rfl ?_)
      refine (CT.out _).mono ?_
      rintro e w3 ⟨rfl, hb⟩
      have nHB := Lib.hid (belG HB.out hb HB.out.size)
      have nRE := Lib.hid (RE.out.go hb)
      have nKB := Lib.hid (KB.out.go hb)
      have nE := Lib.hid (Bx.go E.out hb)
      clear hb
      clear HB RE KB E
      have HB := nHB
      have RE := nRE
      have KB := nKB
      have E := nE
      clear nHB nRE nKB nE
      go_wp2_with (refine loadX (.tmp 3) W.heap.size (envC x e) tyEnv rfl E.out rfl rfl rfl ?_)
      refine (EW.out _ RE.out).mono ?_
      rintro e w4 ⟨⟨v1, rfl, how⟩, hb⟩
      have nHB := Lib.hid (belG HB.out hb HB.out.size)
      have nRE := Lib.hid (RE.out.go hb)
      have nKB := Lib.hid (KB.out.go hb)
      have nE := Lib.hid (Bx.go E.out hb)
      clear hb
      clear HB RE KB E
      have HB := nHB
      have RE := nRE
      have KB := nKB
      have E := nE
      clear nHB nRE nKB nE
      obtain ⟨⟨A1, c1⟩, rfl, hk⟩ := how.keyE
      have j5 : (q : Int) ≤ (c1 : Int) := by have h5 : lw.length ≤ c1 := hk.1; rw [HNL.out] at h5; omega
      have K1 := Lib.hid hk
      clear hk how
      dsimp only
      rw [HNL.out]
      go_wp2_with fail
      refine (CC.out A1 c1 _ K1.out).mono ?_
      rintro e w5 ⟨⟨x2, rfl, hk⟩, hb⟩
      have nHB := Lib.hid (belG HB.out hb HB.out.size)
      have nRE := Lib.hid (RE.out.go hb)
      have nKB := Lib.hid (KB.out.go hb)
      have nK1 := Lib.hid (K1.out.go hb)
      have nE := Lib.hid (Bx.go E.out hb)
      clear hb
      clear HB RE KB K1 E
      have HB := nHB
      have RE := nRE
      have KB := nKB
      have K1 := nK1
      have E := nE
      clear nHB nRE nKB nK1 nE
      have RY := Lib.hid hk
      clear hk j5
      have LB := Lib.hid HB.out.size
      have LTE := Lib.hid (show W.heap.size < w5.heap.size from Bx.lt E.out)
      obtain ⟨V5, hV5⟩ : ∃ V, V = w5.alloc (.cells (envC x2 r1) 25) := ⟨_, rfl⟩
      have ha := (Below.refl w5.heap.size w5).alloc (Nat.le_refl _) (.cells (envC x2 r1) 25)
      have hg := heap_alloc_new w5 (.cells (envC x2 r1) 25)
      have nHB := Lib.hid (HB.out.alloc HB.out.size (.cells (envC x2 r1) 25))
      rw [← hV5] at ha hg nHB
      have nRE := Lib.hid (RE.out.go ha)
      have nKB := Lib.hid (KB.out.go ha)
      have nK1 := Lib.hid (K1.out.go ha)
      have nRY := Lib.hid (RY.out.go ha)
      have nE := Lib.hid (Bx.go E.out ha)
      obtain ⟨y, hy⟩ : ∃ g, g = w5.heap.size := ⟨_, rfl⟩
      rw [← hy] at hg
      have HXY := Lib.hid hy
      have Y := Lib.hid hg
      have HV := Lib.hid hV5
      clear ha hg hV5 hy
      clear HB RE KB K1 RY E
      have HB := nHB
      have RE := nRE
      have KB := nKB
      have K1 := nK1
      have RY := nRY
      have E := nE
      clear nHB nRE nKB nK1 nRY nE
      have LEY := Lib.hid (show W.heap.size ≤ y from by rw [HXY.out]; exact LB.out)
      have NEEY := Lib.hid (show W.heap.size ≠ y from by have h1 := LTE.out; rw [HXY.out]; omega)
      have NEYE := Lib.hid (NEEY.out.symm)
      clear LB LTE
      go_upto_region 9 with (refine storeX (.tmp 11) (.tmp 52) _ (envC x2 r1) _ tyEnv rfl (envC_one _ _) (heap_alloc_new _ _) rfl rfl rfl rfl rfl ?_; rw [setRowG_fold])
      rw [← HV.out]
      (try rw [← HXY.out])
      clear HV HXY
      go_wp2_with fail
      refine (CR.out _ KB.out).mono ?_
      rintro e w6 ⟨⟨x3, rfl, hk⟩, hb⟩
      have nHB := Lib.hid (belG HB.out hb HB.out.size)
      have nRE := Lib.hid (RE.out.go hb)
      have nKB := Lib.hid (KB.out.go hb)
      have nK1 := Lib.hid (K1.out.go hb)
      have nRY := Lib.hid (RY.out.go hb)
      have nE := Lib.hid (Bx.go E.out hb)
      have nY := Lib.hid (Bx.go Y.out hb)
      clear hb
      clear HB RE KB K1 RY E Y
      have HB := nHB
      have RE := nRE
      have KB := nKB
      have K1 := nK1
      have RY := nRY
      have E := nE
      have Y := nY
      clear nHB nRE nKB nK1 nRY nE nY
      have RZ := Lib.hid hk
      clear hk
      have LB := Lib.hid HB.out.size
      have LTE := Lib.hid (show W.heap.size < w6.heap.size from Bx.lt E.out)
      have LTY := Lib.hid (show y < w6.heap.size from Bx.lt Y.out)
      obtain ⟨V6, hV6⟩ : ∃ V, V = w6.alloc (.cells (envC x3 r2) 25) := ⟨_, rfl⟩
      have ha := (Below.refl w6.heap.size w6).alloc (Nat.le_refl _) (.cells (envC x3 r2) 25)
      have hg := heap_alloc_new w6 (.cells (envC x3 r2) 25)
      have nHB := Lib.hid (HB.out.alloc HB.out.size (.cells (envC x3 r2) 25))
      rw [← hV6] at ha hg nHB
      have nRE := Lib.hid (RE.out.go ha)
      have nKB := Lib.hid (KB.out.go ha)
      have nK1 := Lib.hid (K1.out.go ha)
      have nRY := Lib.hid (RY.out.go ha)
      have nRZ := Lib.hid (RZ.out.go ha)
      have nE := Lib.hid (Bx.go E.out ha)
      have nY := Lib.hid (Bx.go Y.out ha)
      obtain ⟨z, hz⟩ : ∃ g, g = w6.heap.size := ⟨_, rfl⟩
      rw [← hz] at hg
      have HXZ := Lib.hid hz
      have Z := Lib.hid hg
      have HV := Lib.hid hV6
      clear ha hg hV6 hz
      clear HB RE KB K1 RY RZ E Y
      have HB := nHB
      have RE := nRE
      have KB := nKB
      have K1 := nK1
      have RY := nRY
      have RZ := nRZ
      have E := nE
      have Y := nY
      clear nHB nRE nKB nK1 nRY nRZ nE nY
      have LEZ := Lib.hid (show W.heap.size ≤ z from by rw [HXZ.out]; exact LB.out)
      have NEEZ := Lib.hid (show W.heap.size ≠ z from by have h1 := LTE.out; rw [HXZ.out]; omega)
      have NEZE := Lib.hid (NEEZ.out.symm)
      have NEYZ := Lib.hid (show y ≠ z from by have h1 := LTY.out; rw [HXZ.out]; omega)
      have NEZY := Lib.hid (NEYZ.out.symm)
      clear LB LTE LTY
      go_upto_region 10 with (refine storeX (.tmp 13) (.tmp 57) _ (envC x3 r2) _ tyEnv rfl (envC_one _ _) (heap_alloc_new _ _) rfl rfl rfl rfl rfl ?_; rw [setRowG_fold])
      rw [← HV.out]
      (try rw [← HXZ.out])
      clear HV HXZ
      go_wp2_with (first | (refine loadX (.tmp 11) y (envC x2 r1) tyEnv rfl Y.out rfl rfl rfl ?_) | (refine loadX (.tmp 3) W.heap.size (envC x e) tyEnv rfl E.out rfl rfl rfl ?_))
      refine (DS.out x2 _ RY.out RE.out).mono ?_
      rintro e w7 ⟨rfl, hb⟩
      have nHB := Lib.hid (belG HB.out hb HB.out.size)
      have nRE := Lib.hid (RE.out.go hb)
      have nKB := Lib.hid (KB.out.go hb)
      have nK1 := Lib.hid (K1.out.go hb)
      have nRY := Lib.hid (RY.out.go hb)
      have nRZ := Lib.hid (RZ.out.go hb)
      have nE := Lib.hid (Bx.go E.out hb)
      have nY := Lib.hid (Bx.go Y.out hb)
      have nZ := Lib.hid (Bx.go Z.out hb)
      clear hb
      clear HB RE KB K1 RY RZ E Y Z
      have HB := nHB
      have RE := nRE
      have KB := nKB
      have K1 := nK1
      have RY := nRY
      have RZ := nRZ
      have E := nE
      have Y := nY
      have Z := nZ
      clear nHB nRE nKB nK1 nRY nRZ nE nY nZ
      have a6 := Bx.cell Y.out (show (envC x2 r1)[6]? = some (.slice x2.body.1 m46 x2.body.2) from by rw [← HM.out]; rfl)
      go_wp2_with fail
      go_ret
      exact ⟨by first | rfl | (simp; done), HB.out⟩
    · have b1 : (47 : Int) ≤ (n : Int) := by omega
      have b2 : (n : Int) ≤ 946 := by omega
      clear hb47 hb946
      obtain ⟨V0, hV, hb, hg⟩ := bx1 W 25 (envC x e)
      have HB := Lib.hid hb
      have E := Lib.hid hg
      have HV := Lib.hid hV
      have nRE := Lib.hid (RE.out.go hb)
      clear RE
      have RE := nRE
      clear nRE
      have nKB := Lib.hid (KB.out.go hb)
      clear KB
      have KB := nKB
      clear nKB
      clear hb hg hV
      go_enter Try.func7, Try.ntmps7
      go_upto_region 1 with (fail)
      rw [← HV.out]
      clear HV
      go_wp2_with fail
      refine (shown12_any _).mono ?_
      rintro e w1 ⟨rfl, hb⟩
      have nHB := Lib.hid (belG HB.out hb HB.out.size)
      have nRE := Lib.hid (RE.out.go hb)
      have nKB := Lib.hid (KB.out.go hb)
      have nE := Lib.hid (Bx.go E.out hb)
      clear hb
      clear HB RE KB E
      have HB := nHB
      have RE := nRE
      have KB := nKB
      have E := nE
      clear nHB nRE nKB nE
      go_wp2_with (refine loadX (.tmp 3) W.heap.size (envC x e) tyEnv rfl E.out rfl rfl rfl ?_)
      refine (CF.out _).mono ?_
      rintro e w2 ⟨rfl, hb⟩
      have nHB := Lib.hid (belG HB.out hb HB.out.size)
      have nRE := Lib.hid (RE.out.go hb)
      have nKB := Lib.hid (KB.out.go hb)
      have nE := Lib.hid (Bx.go E.out hb)
      clear hb
      clear HB RE KB E
      have HB := nHB
      have RE := nRE
      have KB := nKB
      have E := nE
      clear nHB nRE nKB nE
      go_wp2_with (refine loadX (.tmp 3) W.heap.size (envC x e) tyEnv rfl E.out rfl rfl rfl ?_)
      refine (CT.out _).mono ?_
      rintro e w3 ⟨rfl, hb⟩
      have nHB := Lib.hid (belG HB.out hb HB.out.size)
      have nRE := Lib.hid (RE.out.go hb)
      have nKB := Lib.hid (KB.out.go hb)
      have nE := Lib.hid (Bx.go E.out hb)
      clear hb
      clear HB RE KB E
      have HB := nHB
      have RE := nRE
      have KB := nKB
      have E := nE
      clear nHB nRE nKB nE
      go_wp2_with (refine loadX (.tmp 3) W.heap.size (envC x e) tyEnv rfl E.out rfl rfl rfl ?_)
      refine (EW.out _ RE.out).mono ?_
      rintro e w4 ⟨⟨v1, rfl, how⟩, hb⟩
      have nHB := Lib.hid (belG HB.out hb HB.out.size)
      have nRE := Lib.hid (RE.out.go hb)
      have nKB := Lib.hid (KB.out.go hb)
      have nE := Lib.hid (Bx.go E.out hb)
      clear hb
      clear HB RE KB E
      have HB := nHB
      have RE := nRE
      have KB := nKB
      have E := nE
      clear nHB nRE nKB nE
      obtain ⟨⟨A1, c1⟩, rfl, hk⟩ := how.keyE
      have j5 : (q : Int) ≤ (c1 : Int) := by have h5 : lw.length ≤ c1 := hk.1; rw [HNL.out] at h5; omega
      have K1 := Lib.hid hk
      clear hk how
      dsimp only
      rw [HNL.out]
      go_wp2_with fail
      refine (CC.out A1 c1 _ K1.out).mono ?_
      rintro e w5 ⟨⟨x2, rfl, hk⟩, hb⟩
      have nHB := Lib.hid (belG HB.out hb HB.out.size)
      have nRE := Lib.hid (RE.out.go hb)
      have nKB := Lib.hid (KB.out.go hb)
      have nK1 := Lib.hid (K1.out.go hb)
      have nE := Lib.hid (Bx.go E.out hb)
      clear hb
      clear HB RE KB K1 E
      have HB := nHB
      have RE := nRE
      have KB := nKB
      have K1 := nK1
      have E := nE
      clear nHB nRE nKB nK1 nE
      have RY := Lib.hid hk
      clear hk j5
      have LB := Lib.hid HB.out.size
      have LTE := Lib.hid (show W.heap.size < w5.heap.size from Bx.lt E.out)
      obtain ⟨V5, hV5⟩ : ∃ V, V = w5.alloc (.cells (envC x2 r1) 25) := ⟨_, rfl⟩
      have ha := (Below.refl w5.heap.size w5).alloc (Nat.le_refl _) (.cells (envC x2 r1) 25)
      have hg := heap_alloc_new w5 (.cells (envC x2 r1) 25)
      have nHB := Lib.hid (HB.out.alloc HB.out.size (.cells (envC x2 r1) 25))
      rw [← hV5] at ha hg nHB
      have nRE := Lib.hid (RE.out.go ha)
      have nKB := Lib.hid (KB.out.go ha)
      have nK1 := Lib.hid (K1.out.go ha)
      have nRY := Lib.hid (RY.out.go ha)
      have nE := Lib.hid (Bx.go E.out ha)
      obtain ⟨y, hy⟩ : ∃ g, g = w5.heap.size := ⟨_, rfl⟩
      rw [← hy] at hg
      have HXY := Lib.hid hy
      have Y := Lib.hid hg
      have HV := Lib.hid hV5
      clear ha hg hV5 hy
      clear HB RE KB K1 RY E
      have HB := nHB
      have RE := nRE
      have KB := nKB
      have K1 := nK1
      have RY := nRY
      have E := nE
      clear nHB nRE nKB nK1 nRY nE
      have LEY := Lib.hid (show W.heap.size ≤ y from by rw [HXY.out]; exact LB.out)
      have NEEY := Lib.hid (show W.heap.size ≠ y from by have h1 := LTE.out; rw [HXY.out]; omega)
      have NEYE := Lib.hid (NEEY.out.symm)
      clear LB LTE
      go_upto_region 9 with (refine storeX (.tmp 11) (.tmp 52) _ (envC x2 r1) _ tyEnv rfl (envC_one _ _) (heap_alloc_new _ _) rfl rfl rfl rfl rfl ?_; rw [setRowG_fold])
      rw [← HV.out]
      (try rw [← HXY.out])
      clear HV HXY
      go_wp2_with fail
      refine (CR.out _ KB.out).mono ?_
      rintro e w6 ⟨⟨x3, rfl, hk⟩, hb⟩
      have nHB := Lib.hid (belG HB.out hb HB.out.size)
      have nRE := Lib.hid (RE.out.go hb)
      have nKB := Lib.hid (KB.out.go hb)
      have nK1 := Lib.hid (K1.out.go hb)
      have nRY := Lib.hid (RY.out.go hb)
      have nE := Lib.hid (Bx.go E.out hb)
      have nY := Lib.hid (Bx.go Y.out hb)
      clear hb
      clear HB RE KB K1 RY E Y
      have HB := nHB
      have RE := nRE
      have KB := nKB
      have K1 := nK1
      have RY := nRY
      have E := nE
      have Y := nY
      clear nHB nRE nKB nK1 nRY nE nY
      have RZ := Lib.hid hk
      clear hk
      have LB := Lib.hid HB.out.size
      have LTE := Lib.hid (show W.heap.size < w6.heap.size from Bx.lt E.out)
      have LTY := Lib.hid (show y < w6.heap.size from Bx.lt Y.out)
      obtain ⟨V6, hV6⟩ : ∃ V, V = w6.alloc (.cells (envC x3 r2) 25) := ⟨_, rfl⟩
      have ha := (Below.refl w6.heap.size w6).alloc (Nat.le_refl _) (.cells (envC x3 r2) 25)
      have hg := heap_alloc_new w6 (.cells (envC x3 r2) 25)
      have nHB := Lib.hid (HB.out.alloc HB.out.size (.cells (envC x3 r2) 25))
      rw [← hV6] at ha hg nHB
      have nRE := Lib.hid (RE.out.go ha)
      have nKB := Lib.hid (KB.out.go ha)
      have nK1 := Lib.hid (K1.out.go ha)
      have nRY := Lib.hid (RY.out.go ha)
      have nRZ := Lib.hid (RZ.out.go ha)
      have nE := Lib.hid (Bx.go E.out ha)
      have nY := Lib.hid (Bx.go Y.out ha)
      obtain ⟨z, hz⟩ : ∃ g, g = w6.heap.size := ⟨_, rfl⟩
      rw [← hz] at hg
      have HXZ := Lib.hid hz
      have Z := Lib.hid hg
      have HV := Lib.hid hV6
      clear ha hg hV6 hz
      clear HB RE KB K1 RY RZ E Y
      have HB := nHB
      have RE := nRE
      have KB := nKB
      have K1 := nK1
      have RY := nRY
      have RZ := nRZ
      have E := nE
      have Y := nY
      clear nHB nRE nKB nK1 nRY nRZ nE nY
      have LEZ := Lib.hid (show W.heap.size ≤ z from by rw [HXZ.out]; exact LB.out)
      have NEEZ := Lib.hid (show W.heap.size ≠ z from by have h1 := LTE.out; rw [HXZ.out]; omega)
      have NEZE := Lib.hid (NEEZ.out.symm)
      have NEYZ := Lib.hid (show y ≠ z from by have h1 := LTY.out; rw [HXZ.out]; omega)
      have NEZY := Lib.hid (NEYZ.out.symm)
      clear LB LTE LTY
      go_upto_region 10 with (refine storeX (.tmp 13) (.tmp 57) _ (envC x3 r2) _ tyEnv rfl (envC_one _ _) (heap_alloc_new _ _) rfl rfl rfl rfl rfl ?_; rw [setRowG_fold])
      rw [← HV.out]
      (try rw [← HXZ.out])
      clear HV HXZ
      go_wp2_with (first | (refine loadX (.tmp 11) y (envC x2 r1) tyEnv rfl Y.out rfl rfl rfl ?_) | (refine loadX (.tmp 3) W.heap.size (envC x e) tyEnv rfl E.out rfl rfl rfl ?_))
      refine (DS.out x2 _ RY.out RE.out).mono ?_
      rintro e w7 ⟨rfl, hb⟩
      have nHB := Lib.hid (belG HB.out hb HB.out.size)
      have nRE := Lib.hid (RE.out.go hb)
      have nKB := Lib.hid (KB.out.go hb)
      have nK1 := Lib.hid (K1.out.go hb)
      have nRY := Lib.hid (RY.out.go hb)
      have nRZ := Lib.hid (RZ.out.go hb)
      have nE := Lib.hid (Bx.go E.out hb)
      have nY := Lib.hid (Bx.go Y.out hb)
      have nZ := Lib.hid (Bx.go Z.out hb)
      clear hb
      clear HB RE KB K1 RY RZ E Y Z
      have HB := nHB
      have RE := nRE
      have KB := nKB
      have K1 := nK1
      have RY := nRY
      have RZ := nRZ
      have E := nE
      have Y := nY
      have Z := nZ
      clear nHB nRE nKB nK1 nRY nRZ nE nY nZ
      have a6 := Bx.cell Y.out (show (envC x2 r1)[6]? = some (.slice x2.body.1 m46 x2.body.2) from by rw [← HM.out]; rfl)
      go_wp2_with fail
      go_ret
      exact ⟨by first | rfl | (simp; done), HB.out⟩
end Go.Proofs.Ytjkkceecagbjjaa
