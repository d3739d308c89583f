
/- EnvByte's walk. -/
import Derived.Test.YtjkkceecagbjjaaEApart
import Derived.Test.YtjkkceecagbjjaaJ18
import Derived.Laws.Bits64b
namespace Go.Proofs.Ytjkkceecagbjjaa
open Go.RowKit

set_option maxRecDepth 100000 in
theorem Ow.farSet {w : World} {B g j : Nat} {v : Value} {l : List UInt8} (h : Ow w B v l) (hg : g < B) (u : Value) : Ow (w.setCell ⟨g, j, none⟩ u) B v l := by
  refine ⟨h.1, ?_⟩
  rcases h.2 with h0 | ⟨g', cap, cur, e, hbg, hh, hr⟩
  · exact .inl h0
  · exact .inr ⟨g', cap, cur, e, hbg, (heap_setCell_other w ⟨g, j, none⟩ g' u (by show g' ≠ g; omega)).trans hh, hr⟩
set_option maxRecDepth 100000 in
theorem xor_ne {z y : UInt8} (hy : y ≠ 0) : z ^^^ y ≠ z := fun h => hy (by
  have h3 := congrArg (fun u => z ^^^ u) h
  simpa only [← UInt8.xor_assoc, UInt8.xor_self, UInt8.zero_xor] using h3)
set_option maxRecDepth 100000 in
set_option maxHeartbeats 4000000 in
theorem envByte_walk (x : We) (e : Ev) (cut : Int) (yb : Int) (W : World) (h64 : Ev64 e) (he : EnvR W x e) (hk : 0 ≤ cut ∧ cut ≤ 65535) (hy : 0 ≤ yb ∧ yb ≤ 255) :
    Calls Try.prog 8 #[.agg (envC x e), .int .u16 cut, .int .u8 yb] W fun e W' => e = .returned (.bool true) ∧ Below W.heap.size W W' := by
  have RE := Lib.hid he
  clear he
  have CF := Lib.hid (fun w => few12_any x e w)
  have CT := Lib.hid (fun w => right12_any x e w)
  by_cases hfe : fewE e
  case neg =>
    rw [decide_eq_false hfe] at CF
    clear hfe
    obtain ⟨V0, hV, hb, hg⟩ := bx1 W 25 (envC x e)
    have HB := Lib.hid hb
    have E := Lib.hid hg
    have HV := Lib.hid hV
    have nRE := Lib.hid (RE.out.go hb)
    clear RE
    have RE := nRE
    clear nRE
    clear hb hg hV
    go_enter Try.func8, Try.ntmps8
    go_upto_region 1 with (fail)
    rw [← HV.out]
    clear HV
    go_wp2_with fail
    refine (shown12_any _).mono ?_
    rintro e w1 ⟨rfl, hb⟩
    have nHB := Lib.hid (belG HB.out hb HB.out.size)
    have nRE := Lib.hid (RE.out.go hb)
    have nE := Lib.hid (Bx.go E.out hb)
    clear hb
    clear HB RE E
    have HB := nHB
    have RE := nRE
    have E := nE
    clear nHB nRE nE
    go_wp2_with (refine loadX (.tmp 3) W.heap.size (envC x e) tyEnv rfl E.out rfl rfl rfl ?_)
    refine (CF.out _).mono ?_
    rintro e w2 ⟨rfl, hb⟩
    have nHB := Lib.hid (belG HB.out hb HB.out.size)
    have nRE := Lib.hid (RE.out.go hb)
    have nE := Lib.hid (Bx.go E.out hb)
    clear hb
    clear HB RE E
    have HB := nHB
    have RE := nRE
    have E := nE
    clear nHB nRE nE
    go_wp2_with fail
    go_ret
    exact ⟨rfl, HB.out⟩
  rw [decide_eq_true hfe] at CF
  by_cases hp : RightE e
  case neg =>
    rw [decide_eq_false hp] at CT
    clear hfe hp
    obtain ⟨V0, hV, hb, hg⟩ := bx1 W 25 (envC x e)
    have HB := Lib.hid hb
    have E := Lib.hid hg
    have HV := Lib.hid hV
    have nRE := Lib.hid (RE.out.go hb)
    clear RE
    have RE := nRE
    clear nRE
    clear hb hg hV
    go_enter Try.func8, Try.ntmps8
    go_upto_region 1 with (fail)
    rw [← HV.out]
    clear HV
    go_wp2_with fail
    refine (shown12_any _).mono ?_
    rintro e w1 ⟨rfl, hb⟩
    have nHB := Lib.hid (belG HB.out hb HB.out.size)
    have nRE := Lib.hid (RE.out.go hb)
    have nE := Lib.hid (Bx.go E.out hb)
    clear hb
    clear HB RE E
    have HB := nHB
    have RE := nRE
    have E := nE
    clear nHB nRE nE
    go_wp2_with (refine loadX (.tmp 3) W.heap.size (envC x e) tyEnv rfl E.out rfl rfl rfl ?_)
    refine (CF.out _).mono ?_
    rintro e w2 ⟨rfl, hb⟩
    have nHB := Lib.hid (belG HB.out hb HB.out.size)
    have nRE := Lib.hid (RE.out.go hb)
    have nE := Lib.hid (Bx.go E.out hb)
    clear hb
    clear HB RE E
    have HB := nHB
    have RE := nRE
    have E := nE
    clear nHB nRE nE
    go_wp2_with (refine loadX (.tmp 3) W.heap.size (envC x e) tyEnv rfl E.out rfl rfl rfl ?_)
    refine (CT.out _).mono ?_
    rintro e w3 ⟨rfl, hb⟩
    have nHB := Lib.hid (belG HB.out hb HB.out.size)
    have nRE := Lib.hid (RE.out.go hb)
    have nE := Lib.hid (Bx.go E.out hb)
    clear hb
    clear HB RE E
    have HB := nHB
    have RE := nRE
    have E := nE
    clear nHB nRE nE
    go_wp2_with fail
    go_ret
    exact ⟨rfl, HB.out⟩
  rw [decide_eq_true hp] at CT
  by_cases hy0 : yb = 0
  case pos =>
    have b0 : (yb == 0) = true := beq_iff_eq.2 hy0
    clear hfe hp hy0 hy
    obtain ⟨V0, hV, hb, hg⟩ := bx1 W 25 (envC x e)
    have HB := Lib.hid hb
    have E := Lib.hid hg
    have HV := Lib.hid hV
    have nRE := Lib.hid (RE.out.go hb)
    clear RE
    have RE := nRE
    clear nRE
    clear hb hg hV
    go_enter Try.func8, Try.ntmps8
    go_upto_region 1 with (fail)
    rw [← HV.out]
    clear HV
    go_wp2_with fail
    refine (shown12_any _).mono ?_
    rintro e w1 ⟨rfl, hb⟩
    have nHB := Lib.hid (belG HB.out hb HB.out.size)
    have nRE := Lib.hid (RE.out.go hb)
    have nE := Lib.hid (Bx.go E.out hb)
    clear hb
    clear HB RE E
    have HB := nHB
    have RE := nRE
    have E := nE
    clear nHB nRE nE
    go_wp2_with (refine loadX (.tmp 3) W.heap.size (envC x e) tyEnv rfl E.out rfl rfl rfl ?_)
    refine (CF.out _).mono ?_
    rintro e w2 ⟨rfl, hb⟩
    have nHB := Lib.hid (belG HB.out hb HB.out.size)
    have nRE := Lib.hid (RE.out.go hb)
    have nE := Lib.hid (Bx.go E.out hb)
    clear hb
    clear HB RE E
    have HB := nHB
    have RE := nRE
    have E := nE
    clear nHB nRE nE
    go_wp2_with (refine loadX (.tmp 3) W.heap.size (envC x e) tyEnv rfl E.out rfl rfl rfl ?_)
    refine (CT.out _).mono ?_
    rintro e w3 ⟨rfl, hb⟩
    have nHB := Lib.hid (belG HB.out hb HB.out.size)
    have nRE := Lib.hid (RE.out.go hb)
    have nE := Lib.hid (Bx.go E.out hb)
    clear hb
    clear HB RE E
    have HB := nHB
    have RE := nRE
    have E := nE
    clear nHB nRE nE
    go_wp2_with fail
    go_ret
    exact ⟨rfl, HB.out⟩
  have b0 : (yb == 0) = false := beq_eq_false_iff_ne.2 hy0
  obtain ⟨y, rfl⟩ : ∃ y : UInt8, yb = (y.toNat : Int) := ⟨UInt8.ofNat yb.toNat, by rw [UInt8.toNat_ofNat']; omega⟩
  have hyz : y ≠ 0 := fun h => hy0 (by rw [h]; rfl)
  have EW := Lib.hid (fun w h => eWrite_any x e w hfe.k h64 h)
  rw [show writeE e = (inL e ++ e.tag, 0) from by unfold writeE; rw [if_pos hp]] at EW
  have EI := Lib.hid (fun w h => eInput_any x e w hfe.k h64 h)
  rw [show inputE e = (inL e, 0) from by unfold inputE; rw [if_pos hp.1]] at EI
  obtain ⟨tn, rfl⟩ := Int.eq_ofNat_of_zero_le hk.1
  have hk2 := hk.2
  have hN1 : 47 ≤ (inL e ++ e.tag).length ∧ (inL e ++ e.tag).length ≤ 946 := by
    have h5 := write_len hp
    have h6 := hp.1.2.2.2.2.2.2.2
    omega
  have hNN : (inL e ++ e.tag).length = (inL e).length + 16 := by rw [List.length_append, hp.2]
  obtain ⟨q, hq⟩ : ∃ q, q = tn % (inL e ++ e.tag).length := ⟨_, rfl⟩
  have hqN : q < (inL e ++ e.tag).length := by rw [hq]; exact Nat.mod_lt _ (by omega)
  have i4 : (tn : Int).tmod ((inL e ++ e.tag).length : Int) = (q : Int) := by rw [Int.tmod_eq_emod_of_nonneg (by omega), hq]; push_cast; rfl
  have i5 : (tn : Int) % ((inL e ++ e.tag).length : Int) = (q : Int) := by rw [hq]; push_cast; rfl
  obtain ⟨z, hz⟩ : ∃ z, z = (inL e ++ e.tag)[q] := ⟨_, rfl⟩
  have hres := byte_read hp (x := (inL e ++ e.tag).set q (z ^^^ y)) (by rw [List.length_set]) (i := q) (by rw [List.length_set]; exact hqN) (by
    rw [List.getElem?_set_self hqN, List.getElem?_eq_getElem hqN, ← hz]
    intro h
    exact xor_ne hyz (Option.some.inj h)) (fun j hj => List.getElem?_set_ne (Ne.symm hj))
  have hzq : (inL e ++ e.tag)[q]? = some z := by rw [hz]; exact List.getElem?_eq_getElem hqN
  obtain ⟨lw, hlw⟩ : ∃ l, l = inL e ++ e.tag := ⟨_, rfl⟩
  rw [← hlw] at EW hN1 hNN hqN i4 i5 hres hzq
  clear hz
  obtain ⟨xs, hxs⟩ : ∃ l, l = lw.set q (z ^^^ y) := ⟨_, rfl⟩
  rw [← hxs] at hres
  have HXS := Lib.hid hxs
  have hxl : xs.length = lw.length := by rw [hxs, List.length_set]
  have CR := Lib.hid (fun u w h => eRead_any u xs w (by omega) h)
  have L64 := Lib.hid (read_64 xs)
  have LFW := Lib.hid (read_few xs)
  rw [hxl] at CR
  have HXL := Lib.hid (show xs.length = lw.length from hxl)
  obtain ⟨r, hr⟩ : ∃ r, r = (readE xs).1 := ⟨_, rfl⟩
  obtain ⟨m, hm⟩ : ∃ r, r = (readE xs).2 := ⟨_, rfl⟩
  rw [← hr] at CR L64 LFW hres
  rw [← hm] at CR hres
  clear hr hm
  obtain ⟨li, hli⟩ : ∃ l, l = inL e := ⟨_, rfl⟩
  rw [← hli] at EI hNN hres
  obtain ⟨N, hN⟩ : ∃ n, n = lw.length := ⟨_, rfl⟩
  obtain ⟨M, hM⟩ : ∃ n, n = li.length := ⟨_, rfl⟩
  rw [← hN] at hN1 hNN hqN i4 i5 CR
  rw [← hM] at hNN hres
  have HN := Lib.hid hN.symm
  have HM := Lib.hid hM.symm
  have HZ := Lib.hid hzq
  have j1 : (M : Int) + 16 = (N : Int) := by omega
  have j2 : (q : Int) < (N : Int) := by omega
  have j3 : (0 : Int) ≤ (q : Int) := by omega
  have j4 : ((N : Int) == 0) = false := beq_eq_false_iff_ne.2 (by omega)
  have j5 : ¬ (N : Int) = 0 := by omega
  have j6 : (M : Int) ≤ 930 := by omega
  have j7 : (0 : Int) ≤ (M : Int) := by omega
  have hxor : bits .xor .u8 (z.toNat : Int) (y.toNat : Int) = ((z ^^^ y).toNat : Int) := by rw [u8_xor_nat _ _ z.toNat_lt y.toNat_lt, UInt8.toNat_xor]
  obtain ⟨zy, hzy⟩ : ∃ u, u = z ^^^ y := ⟨_, rfl⟩
  rw [← hzy] at hxor hxs
  have HXZ := Lib.hid hxs
  obtain ⟨zn, hzn⟩ : ∃ u : Nat, u = z.toNat := ⟨_, rfl⟩
  obtain ⟨yn, hyn⟩ : ∃ u : Nat, u = y.toNat := ⟨_, rfl⟩
  have HZN := Lib.hid hzn
  rw [← hzn, ← hyn] at hxor
  rw [← hyn] at b0 hy
  rw [← hyn]
  have hxor2 : bits BinOp.xor IntKind.u8 (zn : Int) (yn : Int) = (zy.toNat : Int) := hxor
  clear hlw hN hM hli hq hp hfe h64 hk hy0 hyz hxl hN1 hzq hxs HXS hzy hzn hyn hxor hy
  have HNN := Lib.hid hNN
  have HQN := Lib.hid hqN
  clear hNN hqN
  rcases hres with ⟨rfl, hq30⟩ | ⟨rfl, hR, hI, hG⟩
  · have k1 : (q : Int) < 30 := by omega
    clear hq30
    obtain ⟨V0, hV, hb, hg⟩ := bx1 W 25 (envC x e)
    have HB := Lib.hid hb
    have E := Lib.hid hg
    have HV := Lib.hid hV
    have nRE := Lib.hid (RE.out.go hb)
    clear RE
    have RE := nRE
    clear nRE
    clear hb hg hV
    go_enter Try.func8, Try.ntmps8
    go_upto_region 1 with (fail)
    rw [← HV.out]
    clear HV
    go_wp2_with fail
    refine (shown12_any _).mono ?_
    rintro e w1 ⟨rfl, hb⟩
    have nHB := Lib.hid (belG HB.out hb HB.out.size)
    have nRE := Lib.hid (RE.out.go hb)
    have nE := Lib.hid (Bx.go E.out hb)
    clear hb
    clear HB RE E
    have HB := nHB
    have RE := nRE
    have E := nE
    clear nHB nRE nE
    go_wp2_with (refine loadX (.tmp 3) W.heap.size (envC x e) tyEnv rfl E.out rfl rfl rfl ?_)
    refine (CF.out _).mono ?_
    rintro e w2 ⟨rfl, hb⟩
    have nHB := Lib.hid (belG HB.out hb HB.out.size)
    have nRE := Lib.hid (RE.out.go hb)
    have nE := Lib.hid (Bx.go E.out hb)
    clear hb
    clear HB RE E
    have HB := nHB
    have RE := nRE
    have E := nE
    clear nHB nRE nE
    go_wp2_with (refine loadX (.tmp 3) W.heap.size (envC x e) tyEnv rfl E.out rfl rfl rfl ?_)
    refine (CT.out _).mono ?_
    rintro e w3 ⟨rfl, hb⟩
    have nHB := Lib.hid (belG HB.out hb HB.out.size)
    have nRE := Lib.hid (RE.out.go hb)
    have nE := Lib.hid (Bx.go E.out hb)
    clear hb
    clear HB RE E
    have HB := nHB
    have RE := nRE
    have E := nE
    clear nHB nRE nE
    go_wp2_with (refine loadX (.tmp 3) W.heap.size (envC x e) tyEnv rfl E.out rfl rfl rfl ?_)
    have RE0 := RE
    have E0 := E
    have HB0 := HB
    refine (EW.out _ RE.out).mono ?_
    rintro e w4 ⟨⟨v1, rfl, how⟩, hb⟩
    have hbv := hb
    have nHB := Lib.hid (belG HB.out hb HB.out.size)
    have nRE := Lib.hid (RE.out.go hb)
    have nE := Lib.hid (Bx.go E.out hb)
    clear hb
    clear HB RE E
    have HB := nHB
    have RE := nRE
    have E := nE
    clear nHB nRE nE
    obtain ⟨g1, c1, hv1, hg1, -⟩ := World.ownsRow.form how (by rw [HN.out]; have := HNN.out; omega)
    subst hv1
    have h5 : N ≤ c1 := by obtain ⟨A5, c5, e5, e6, -, -⟩ := how.form; cases e5; rw [HN.out] at e6; exact e6
    have h6 : g1 < w4.heap.size := by rcases how.2 with ⟨e7, -⟩ | ⟨g7, c7, k7, e7, -, e8, -⟩; cases e7; cases e7; exact (Array.getElem?_eq_some_iff.1 e8).1
    have G1 := Lib.hid (show w3.heap.size ≤ g1 from hg1)
    have G2 := Lib.hid h6
    have OW := Lib.hid how
    have BV := Lib.hid (show Below w3.heap.size w3 w4 from by exact hbv)
    clear how hg1 h5 h6 hbv
    rw [HN.out]
    go_wp2_with (refine loadX (.tmp 3) W.heap.size (envC x e) tyEnv rfl E.out rfl rfl rfl ?_)
    have BV0 := BV
    refine (EI.out _ RE.out).mono ?_
    rintro e w5 ⟨⟨v2, rfl, how⟩, hb⟩
    have hbv := hb
    have nHB := Lib.hid (belG HB.out hb HB.out.size)
    have nRE := Lib.hid (RE.out.go hb)
    have nOW := Lib.hid (OW.out.go hb)
    have nE := Lib.hid (Bx.go E.out hb)
    clear hb
    clear HB RE OW E
    have HB := nHB
    have RE := nRE
    have OW := nOW
    have E := nE
    clear nHB nRE nOW nE
    obtain ⟨y2, hv2, -⟩ := how.keyE
    subst hv2
    have OP := Lib.hid how
    have BV := Lib.hid (belG BV0.out hbv BV0.out.size)
    clear how hbv BV0
    rw [HM.out]
    go_upto_region 9 with fail
    have c9 := Ow.cellG OW.out q (by rw [HN.out]; omega)
    have hzz : (lw[q]'(by rw [HN.out]; omega)) = z := by have h5 := HZ.out; rw [List.getElem?_eq_getElem (by rw [HN.out]; omega)] at h5; exact Option.some.inj h5
    rw [hzz, ← HZN.out] at c9
    clear hzz
    have f9 := Ow.thawG OW.out q
    go_upto_region 10 with (fail)
    obtain ⟨Y, hY⟩ : ∃ U, U = w5.setCell ⟨g1, q, none⟩ (.int .u8 (zy.toNat : Int)) := ⟨_, rfl⟩
    have BY := Lib.hid (show Below w3.heap.size w3 Y from by rw [hY]; exact Below.setCell (p := ⟨g1, q, none⟩) BV.out G1.out _)
    have KX := Lib.hid (show KeyE Y (some ⟨g1, 0, none⟩, c1) xs from by
      have h5 := Ow.setG OW.out q zy
      rw [← hY, ← HXZ.out] at h5
      obtain ⟨A5, c5, e5, e6, e7, e8⟩ := h5.form
      simp only [Value.slice.injEq] at e5
      obtain ⟨rfl, -, rfl⟩ := e5
      exact ⟨e6, e7, e8⟩)
    have KP := Lib.hid (show KeyE Y y2 li from by
      have h5 := OP.out.farSet (j := q) G2.out (.int .u8 (zy.toNat : Int))
      rw [← hY] at h5
      obtain ⟨A5, c5, e5, e6, e7, e8⟩ := h5.form
      simp only [Value.slice.injEq] at e5
      obtain ⟨rfl, -, rfl⟩ := e5
      exact ⟨e6, e7, e8⟩)
    rw [← hY]
    clear hY c9 f9 OW OP BV RE E HB G1 G2
    have RE := Lib.hid (RE0.out.go BY.out)
    have E := Lib.hid (Bx.go E0.out BY.out)
    have HB := Lib.hid (belG HB0.out BY.out HB0.out.size)
    clear RE0 E0 HB0 BY
    go_wp2_with fail
    refine (CR.out (some ⟨g1, 0, none⟩, c1) _ KX.out).mono ?_
    rintro e w6 ⟨⟨xr, rfl, hk⟩, hb⟩
    have nHB := Lib.hid (belG HB.out hb HB.out.size)
    have nRE := Lib.hid (RE.out.go hb)
    have nKX := Lib.hid (KX.out.go hb)
    have nKP := Lib.hid (KP.out.go hb)
    have nE := Lib.hid (Bx.go E.out hb)
    clear hb
    clear HB RE KX KP E
    have HB := nHB
    have RE := nRE
    have KX := nKX
    have KP := nKP
    have E := nE
    clear nHB nRE nKX nKP nE
    have RD := Lib.hid hk
    clear hk
    have LB := Lib.hid HB.out.size
    have LTE := Lib.hid (show W.heap.size < w6.heap.size from Bx.lt E.out)
    obtain ⟨V6, hV6⟩ : ∃ V, V = w6.alloc (.cells (envC xr r) 25) := ⟨_, rfl⟩
    have ha := (Below.refl w6.heap.size w6).alloc (Nat.le_refl _) (.cells (envC xr r) 25)
    have hg := heap_alloc_new w6 (.cells (envC xr r) 25)
    have nHB := Lib.hid (HB.out.alloc HB.out.size (.cells (envC xr r) 25))
    rw [← hV6] at ha hg nHB
    have nRE := Lib.hid (RE.out.go ha)
    have nKX := Lib.hid (KX.out.go ha)
    have nKP := Lib.hid (KP.out.go ha)
    have nRD := Lib.hid (RD.out.go ha)
    have nE := Lib.hid (Bx.go E.out ha)
    obtain ⟨d, hd⟩ : ∃ g, g = w6.heap.size := ⟨_, rfl⟩
    rw [← hd] at hg
    have HXD := Lib.hid hd
    have D := Lib.hid hg
    have HV := Lib.hid hV6
    clear ha hg hV6 hd
    clear HB RE KX KP RD E
    have HB := nHB
    have RE := nRE
    have KX := nKX
    have KP := nKP
    have RD := nRD
    have E := nE
    clear nHB nRE nKX nKP nRD nE
    have LED := Lib.hid (show W.heap.size ≤ d from by rw [HXD.out]; exact LB.out)
    have NEED := Lib.hid (show W.heap.size ≠ d from by have h1 := LTE.out; rw [HXD.out]; omega)
    have NEDE := Lib.hid (NEED.out.symm)
    clear LB LTE
    go_upto_region 11 with (refine storeX (.tmp 13) (.tmp 72) _ (envC xr r) _ tyEnv rfl (envC_one _ _) (heap_alloc_new _ _) rfl rfl rfl rfl rfl ?_; rw [setRowG_fold])
    rw [← HV.out]
    (try rw [← HXD.out])
    clear HV HXD
    go_wp2_with fail
    go_ret
    exact ⟨by first | rfl | (simp; done), HB.out⟩
  · have CI := Lib.hid (fun u w h => eInput_any u r w LFW.out L64.out h)
    rw [show inputE r = (inL r, 0) from by unfold inputE; rw [if_pos hR.1]] at CI
    have S1 := Lib.hid (fun (u v : Wke) w h k => sameE_any u v li (inL r) w h k)
    have S2 := Lib.hid (fun (u v : Wke) w h k => sameE_any u v r.tag e.tag w h k)
    obtain ⟨Nr, hNr⟩ : ∃ n, n = (inL r).length := ⟨_, rfl⟩
    have HNR := Lib.hid hNr.symm
    rw [HM.out, ← hNr] at S1
    clear hNr
    by_cases hMq : M ≤ q
    · have k1 : (M : Int) ≤ (q : Int) := by omega
      have k2 : ¬ (q : Int) < (M : Int) := by omega
      rw [decide_eq_true (show li = inL r from (hI.2 hMq).symm)] at S1
      rw [decide_eq_false (show ¬ r.tag = e.tag from fun h => by have := hG.1 h; omega)] at S2
      clear hI hG hR hMq
      obtain ⟨V0, hV, hb, hg⟩ := bx1 W 25 (envC x e)
      have HB := Lib.hid hb
      have E := Lib.hid hg
      have HV := Lib.hid hV
      have nRE := Lib.hid (RE.out.go hb)
      clear RE
      have RE := nRE
      clear nRE
      clear hb hg hV
      go_enter Try.func8, Try.ntmps8
      go_upto_region 1 with (fail)
      rw [← HV.out]
      clear HV
      go_wp2_with fail
      refine (shown12_any _).mono ?_
      rintro e w1 ⟨rfl, hb⟩
      have nHB := Lib.hid (belG HB.out hb HB.out.size)
      have nRE := Lib.hid (RE.out.go hb)
      have nE := Lib.hid (Bx.go E.out hb)
      clear hb
      clear HB RE E
      have HB := nHB
      have RE := nRE
      have E := nE
      clear nHB nRE nE
      go_wp2_with (refine loadX (.tmp 3) W.heap.size (envC x e) tyEnv rfl E.out rfl rfl rfl ?_)
      refine (CF.out _).mono ?_
      rintro e w2 ⟨rfl, hb⟩
      have nHB := Lib.hid (belG HB.out hb HB.out.size)
      have nRE := Lib.hid (RE.out.go hb)
      have nE := Lib.hid (Bx.go E.out hb)
      clear hb
      clear HB RE E
      have HB := nHB
      have RE := nRE
      have E := nE
      clear nHB nRE nE
      go_wp2_with (refine loadX (.tmp 3) W.heap.size (envC x e) tyEnv rfl E.out rfl rfl rfl ?_)
      refine (CT.out _).mono ?_
      rintro e w3 ⟨rfl, hb⟩
      have nHB := Lib.hid (belG HB.out hb HB.out.size)
      have nRE := Lib.hid (RE.out.go hb)
      have nE := Lib.hid (Bx.go E.out hb)
      clear hb
      clear HB RE E
      have HB := nHB
      have RE := nRE
      have E := nE
      clear nHB nRE nE
      go_wp2_with (refine loadX (.tmp 3) W.heap.size (envC x e) tyEnv rfl E.out rfl rfl rfl ?_)
      have RE0 := RE
      have E0 := E
      have HB0 := HB
      refine (EW.out _ RE.out).mono ?_
      rintro e w4 ⟨⟨v1, rfl, how⟩, hb⟩
      have hbv := hb
      have nHB := Lib.hid (belG HB.out hb HB.out.size)
      have nRE := Lib.hid (RE.out.go hb)
      have nE := Lib.hid (Bx.go E.out hb)
      clear hb
      clear HB RE E
      have HB := nHB
      have RE := nRE
      have E := nE
      clear nHB nRE nE
      obtain ⟨g1, c1, hv1, hg1, -⟩ := World.ownsRow.form how (by rw [HN.out]; have := HNN.out; omega)
      subst hv1
      have h5 : N ≤ c1 := by obtain ⟨A5, c5, e5, e6, -, -⟩ := how.form; cases e5; rw [HN.out] at e6; exact e6
      have h6 : g1 < w4.heap.size := by rcases how.2 with ⟨e7, -⟩ | ⟨g7, c7, k7, e7, -, e8, -⟩; cases e7; cases e7; exact (Array.getElem?_eq_some_iff.1 e8).1
      have G1 := Lib.hid (show w3.heap.size ≤ g1 from hg1)
      have G2 := Lib.hid h6
      have OW := Lib.hid how
      have BV := Lib.hid (show Below w3.heap.size w3 w4 from by exact hbv)
      clear how hg1 h5 h6 hbv
      rw [HN.out]
      go_wp2_with (refine loadX (.tmp 3) W.heap.size (envC x e) tyEnv rfl E.out rfl rfl rfl ?_)
      have BV0 := BV
      refine (EI.out _ RE.out).mono ?_
      rintro e w5 ⟨⟨v2, rfl, how⟩, hb⟩
      have hbv := hb
      have nHB := Lib.hid (belG HB.out hb HB.out.size)
      have nRE := Lib.hid (RE.out.go hb)
      have nOW := Lib.hid (OW.out.go hb)
      have nE := Lib.hid (Bx.go E.out hb)
      clear hb
      clear HB RE OW E
      have HB := nHB
      have RE := nRE
      have OW := nOW
      have E := nE
      clear nHB nRE nOW nE
      obtain ⟨y2, hv2, -⟩ := how.keyE
      subst hv2
      have OP := Lib.hid how
      have BV := Lib.hid (belG BV0.out hbv BV0.out.size)
      clear how hbv BV0
      rw [HM.out]
      go_upto_region 9 with fail
      have c9 := Ow.cellG OW.out q (by rw [HN.out]; omega)
      have hzz : (lw[q]'(by rw [HN.out]; omega)) = z := by have h5 := HZ.out; rw [List.getElem?_eq_getElem (by rw [HN.out]; omega)] at h5; exact Option.some.inj h5
      rw [hzz, ← HZN.out] at c9
      clear hzz
      have f9 := Ow.thawG OW.out q
      go_upto_region 10 with (fail)
      obtain ⟨Y, hY⟩ : ∃ U, U = w5.setCell ⟨g1, q, none⟩ (.int .u8 (zy.toNat : Int)) := ⟨_, rfl⟩
      have BY := Lib.hid (show Below w3.heap.size w3 Y from by rw [hY]; exact Below.setCell (p := ⟨g1, q, none⟩) BV.out G1.out _)
      have KX := Lib.hid (show KeyE Y (some ⟨g1, 0, none⟩, c1) xs from by
        have h5 := Ow.setG OW.out q zy
        rw [← hY, ← HXZ.out] at h5
        obtain ⟨A5, c5, e5, e6, e7, e8⟩ := h5.form
        simp only [Value.slice.injEq] at e5
        obtain ⟨rfl, -, rfl⟩ := e5
        exact ⟨e6, e7, e8⟩)
      have KP := Lib.hid (show KeyE Y y2 li from by
        have h5 := OP.out.farSet (j := q) G2.out (.int .u8 (zy.toNat : Int))
        rw [← hY] at h5
        obtain ⟨A5, c5, e5, e6, e7, e8⟩ := h5.form
        simp only [Value.slice.injEq] at e5
        obtain ⟨rfl, -, rfl⟩ := e5
        exact ⟨e6, e7, e8⟩)
      rw [← hY]
      clear hY c9 f9 OW OP BV RE E HB G1 G2
      have RE := Lib.hid (RE0.out.go BY.out)
      have E := Lib.hid (Bx.go E0.out BY.out)
      have HB := Lib.hid (belG HB0.out BY.out HB0.out.size)
      clear RE0 E0 HB0 BY
      go_wp2_with fail
      refine (CR.out (some ⟨g1, 0, none⟩, c1) _ KX.out).mono ?_
      rintro e w6 ⟨⟨xr, rfl, hk⟩, hb⟩
      have nHB := Lib.hid (belG HB.out hb HB.out.size)
      have nRE := Lib.hid (RE.out.go hb)
      have nKX := Lib.hid (KX.out.go hb)
      have nKP := Lib.hid (KP.out.go hb)
      have nE := Lib.hid (Bx.go E.out hb)
      clear hb
      clear HB RE KX KP E
      have HB := nHB
      have RE := nRE
      have KX := nKX
      have KP := nKP
      have E := nE
      clear nHB nRE nKX nKP nE
      have RD := Lib.hid hk
      clear hk
      have LB := Lib.hid HB.out.size
      have LTE := Lib.hid (show W.heap.size < w6.heap.size from Bx.lt E.out)
      obtain ⟨V6, hV6⟩ : ∃ V, V = w6.alloc (.cells (envC xr r) 25) := ⟨_, rfl⟩
      have ha := (Below.refl w6.heap.size w6).alloc (Nat.le_refl _) (.cells (envC xr r) 25)
      have hg := heap_alloc_new w6 (.cells (envC xr r) 25)
      have nHB := Lib.hid (HB.out.alloc HB.out.size (.cells (envC xr r) 25))
      rw [← hV6] at ha hg nHB
      have nRE := Lib.hid (RE.out.go ha)
      have nKX := Lib.hid (KX.out.go ha)
      have nKP := Lib.hid (KP.out.go ha)
      have nRD := Lib.hid (RD.out.go ha)
      have nE := Lib.hid (Bx.go E.out ha)
      obtain ⟨d, hd⟩ : ∃ g, g = w6.heap.size := ⟨_, rfl⟩
      rw [← hd] at hg
      have HXD := Lib.hid hd
      have D := Lib.hid hg
      have HV := Lib.hid hV6
      clear ha hg hV6 hd
      clear HB RE KX KP RD E
      have HB := nHB
      have RE := nRE
      have KX := nKX
      have KP := nKP
      have RD := nRD
      have E := nE
      clear nHB nRE nKX nKP nRD nE
      have LED := Lib.hid (show W.heap.size ≤ d from by rw [HXD.out]; exact LB.out)
      have NEED := Lib.hid (show W.heap.size ≠ d from by have h1 := LTE.out; rw [HXD.out]; omega)
      have NEDE := Lib.hid (NEED.out.symm)
      clear LB LTE
      go_upto_region 11 with (refine storeX (.tmp 13) (.tmp 72) _ (envC xr r) _ tyEnv rfl (envC_one _ _) (heap_alloc_new _ _) rfl rfl rfl rfl rfl ?_; rw [setRowG_fold])
      rw [← HV.out]
      (try rw [← HXD.out])
      clear HV HXD
      go_wp2_with (refine loadX (.tmp 13) d (envC xr r) tyEnv rfl D.out rfl rfl rfl ?_)
      refine (CI.out xr _ RD.out).mono ?_
      rintro e w7 ⟨⟨v3, rfl, how⟩, hb⟩
      have nHB := Lib.hid (belG HB.out hb HB.out.size)
      have nRE := Lib.hid (RE.out.go hb)
      have nKX := Lib.hid (KX.out.go hb)
      have nKP := Lib.hid (KP.out.go hb)
      have nRD := Lib.hid (RD.out.go hb)
      have nE := Lib.hid (Bx.go E.out hb)
      have nD := Lib.hid (Bx.go D.out hb)
      clear hb
      clear HB RE KX KP RD E D
      have HB := nHB
      have RE := nRE
      have KX := nKX
      have KP := nKP
      have RD := nRD
      have E := nE
      have D := nD
      clear nHB nRE nKX nKP nRD nE nD
      obtain ⟨y3, rfl, hk⟩ := how.keyE
      have K3 := Lib.hid hk
      clear hk how
      rw [HNR.out]
      have d7 := Bx.cell D.out (envC_7 xr r)
      have e7 := Bx.cell E.out (envC_7 x e)
      go_wp2_with fail
      refine (S1.out y2 y3 _ KP.out K3.out).mono ?_
      rintro e w8 ⟨rfl, rfl⟩
      go_wp2_with fail
      refine (S2.out xr.tag x.tag _ RD.out.2 RE.out.2).mono ?_
      rintro e w9 ⟨rfl, rfl⟩
      go_wp2_with fail
      go_ret
      exact ⟨by first | rfl | (simp; done) | (simp; omega), HB.out⟩
    · have k1 : ¬ (M : Int) ≤ (q : Int) := by omega
      have k2 : (q : Int) < (M : Int) := by omega
      rw [decide_eq_false (show ¬ li = inL r from fun h => hMq (hI.1 h.symm))] at S1
      rw [decide_eq_true (hG.2 (by omega))] at S2
      clear hI hG hR hMq
      obtain ⟨V0, hV, hb, hg⟩ := bx1 W 25 (envC x e)
      have HB := Lib.hid hb
      have E := Lib.hid hg
      have HV := Lib.hid hV
      have nRE := Lib.hid (RE.out.go hb)
      clear RE
      have RE := nRE
      clear nRE
      clear hb hg hV
      go_enter Try.func8, Try.ntmps8
      go_upto_region 1 with (fail)
      rw [← HV.out]
      clear HV
      go_wp2_with fail
      refine (shown12_any _).mono ?_
      rintro e w1 ⟨rfl, hb⟩
      have nHB := Lib.hid (belG HB.out hb HB.out.size)
      have nRE := Lib.hid (RE.out.go hb)
      have nE := Lib.hid (Bx.go E.out hb)
      clear hb
      clear HB RE E
      have HB := nHB
      have RE := nRE
      have E := nE
      clear nHB nRE nE
      go_wp2_with (refine loadX (.tmp 3) W.heap.size (envC x e) tyEnv rfl E.out rfl rfl rfl ?_)
      refine (CF.out _).mono ?_
      rintro e w2 ⟨rfl, hb⟩
      have nHB := Lib.hid (belG HB.out hb HB.out.size)
      have nRE := Lib.hid (RE.out.go hb)
      have nE := Lib.hid (Bx.go E.out hb)
      clear hb
      clear HB RE E
      have HB := nHB
      have RE := nRE
      have E := nE
      clear nHB nRE nE
      go_wp2_with (refine loadX (.tmp 3) W.heap.size (envC x e) tyEnv rfl E.out rfl rfl rfl ?_)
      refine (CT.out _).mono ?_
      rintro e w3 ⟨rfl, hb⟩
      have nHB := Lib.hid (belG HB.out hb HB.out.size)
      have nRE := Lib.hid (RE.out.go hb)
      have nE := Lib.hid (Bx.go E.out hb)
      clear hb
      clear HB RE E
      have HB := nHB
      have RE := nRE
      have E := nE
      clear nHB nRE nE
      go_wp2_with (refine loadX (.tmp 3) W.heap.size (envC x e) tyEnv rfl E.out rfl rfl rfl ?_)
      have RE0 := RE
      have E0 := E
      have HB0 := HB
      refine (EW.out _ RE.out).mono ?_
      rintro e w4 ⟨⟨v1, rfl, how⟩, hb⟩
      have hbv := hb
      have nHB := Lib.hid (belG HB.out hb HB.out.size)
      have nRE := Lib.hid (RE.out.go hb)
      have nE := Lib.hid (Bx.go E.out hb)
      clear hb
      clear HB RE E
      have HB := nHB
      have RE := nRE
      have E := nE
      clear nHB nRE nE
      obtain ⟨g1, c1, hv1, hg1, -⟩ := World.ownsRow.form how (by rw [HN.out]; have := HNN.out; omega)
      subst hv1
      have h5 : N ≤ c1 := by obtain ⟨A5, c5, e5, e6, -, -⟩ := how.form; cases e5; rw [HN.out] at e6; exact e6
      have h6 : g1 < w4.heap.size := by rcases how.2 with ⟨e7, -⟩ | ⟨g7, c7, k7, e7, -, e8, -⟩; cases e7; cases e7; exact (Array.getElem?_eq_some_iff.1 e8).1
      have G1 := Lib.hid (show w3.heap.size ≤ g1 from hg1)
      have G2 := Lib.hid h6
      have OW := Lib.hid how
      have BV := Lib.hid (show Below w3.heap.size w3 w4 from by exact hbv)
      clear how hg1 h5 h6 hbv
      rw [HN.out]
      go_wp2_with (refine loadX (.tmp 3) W.heap.size (envC x e) tyEnv rfl E.out rfl rfl rfl ?_)
      have BV0 := BV
      refine (EI.out _ RE.out).mono ?_
      rintro e w5 ⟨⟨v2, rfl, how⟩, hb⟩
      have hbv := hb
      have nHB := Lib.hid (belG HB.out hb HB.out.size)
      have nRE := Lib.hid (RE.out.go hb)
      have nOW := Lib.hid (OW.out.go hb)
      have nE := Lib.hid (Bx.go E.out hb)
      clear hb
      clear HB RE OW E
      have HB := nHB
      have RE := nRE
      have OW := nOW
      have E := nE
      clear nHB nRE nOW nE
      obtain ⟨y2, hv2, -⟩ := how.keyE
      subst hv2
      have OP := Lib.hid how
      have BV := Lib.hid (belG BV0.out hbv BV0.out.size)
      clear how hbv BV0
      rw [HM.out]
      go_upto_region 9 with fail
      have c9 := Ow.cellG OW.out q (by rw [HN.out]; omega)
      have hzz : (lw[q]'(by rw [HN.out]; omega)) = z := by have h5 := HZ.out; rw [List.getElem?_eq_getElem (by rw [HN.out]; omega)] at h5; exact Option.some.inj h5
      rw [hzz, ← HZN.out] at c9
      clear hzz
      have f9 := Ow.thawG OW.out q
      go_upto_region 10 with (fail)
      obtain ⟨Y, hY⟩ : ∃ U, U = w5.setCell ⟨g1, q, none⟩ (.int .u8 (zy.toNat : Int)) := ⟨_, rfl⟩
      have BY := Lib.hid (show Below w3.heap.size w3 Y from by rw [hY]; exact Below.setCell (p := ⟨g1, q, none⟩) BV.out G1.out _)
      have KX := Lib.hid (show KeyE Y (some ⟨g1, 0, none⟩, c1) xs from by
        have h5 := Ow.setG OW.out q zy
        rw [← hY, ← HXZ.out] at h5
        obtain ⟨A5, c5, e5, e6, e7, e8⟩ := h5.form
        simp only [Value.slice.injEq] at e5
        obtain ⟨rfl, -, rfl⟩ := e5
        exact ⟨e6, e7, e8⟩)
      have KP := Lib.hid (show KeyE Y y2 li from by
        have h5 := OP.out.farSet (j := q) G2.out (.int .u8 (zy.toNat : Int))
        rw [← hY] at h5
        obtain ⟨A5, c5, e5, e6, e7, e8⟩ := h5.form
        simp only [Value.slice.injEq] at e5
        obtain ⟨rfl, -, rfl⟩ := e5
        exact ⟨e6, e7, e8⟩)
      rw [← hY]
      clear hY c9 f9 OW OP BV RE E HB G1 G2
      have RE := Lib.hid (RE0.out.go BY.out)
      have E := Lib.hid (Bx.go E0.out BY.out)
      have HB := Lib.hid (belG HB0.out BY.out HB0.out.size)
      clear RE0 E0 HB0 BY
      go_wp2_with fail
      refine (CR.out (some ⟨g1, 0, none⟩, c1) _ KX.out).mono ?_
      rintro e w6 ⟨⟨xr, rfl, hk⟩, hb⟩
      have nHB := Lib.hid (belG HB.out hb HB.out.size)
      have nRE := Lib.hid (RE.out.go hb)
      have nKX := Lib.hid (KX.out.go hb)
      have nKP := Lib.hid (KP.out.go hb)
      have nE := Lib.hid (Bx.go E.out hb)
      clear hb
      clear HB RE KX KP E
      have HB := nHB
      have RE := nRE
      have KX := nKX
      have KP := nKP
      have E := nE
      clear nHB nRE nKX nKP nE
      have RD := Lib.hid hk
      clear hk
      have LB := Lib.hid HB.out.size
      have LTE := Lib.hid (show W.heap.size < w6.heap.size from Bx.lt E.out)
      obtain ⟨V6, hV6⟩ : ∃ V, V = w6.alloc (.cells (envC xr r) 25) := ⟨_, rfl⟩
      have ha := (Below.refl w6.heap.size w6).alloc (Nat.le_refl _) (.cells (envC xr r) 25)
      have hg := heap_alloc_new w6 (.cells (envC xr r) 25)
      have nHB := Lib.hid (HB.out.alloc HB.out.size (.cells (envC xr r) 25))
      rw [← hV6] at ha hg nHB
      have nRE := Lib.hid (RE.out.go ha)
      have nKX := Lib.hid (KX.out.go ha)
      have nKP := Lib.hid (KP.out.go ha)
      have nRD := Lib.hid (RD.out.go ha)
      have nE := Lib.hid (Bx.go E.out ha)
      obtain ⟨d, hd⟩ : ∃ g, g = w6.heap.size := ⟨_, rfl⟩
      rw [← hd] at hg
      have HXD := Lib.hid hd
      have D := Lib.hid hg
      have HV := Lib.hid hV6
      clear ha hg hV6 hd
      clear HB RE KX KP RD E
      have HB := nHB
      have RE := nRE
      have KX := nKX
      have KP := nKP
      have RD := nRD
      have E := nE
      clear nHB nRE nKX nKP nRD nE
      have LED := Lib.hid (show W.heap.size ≤ d from by rw [HXD.out]; exact LB.out)
      have NEED := Lib.hid (show W.heap.size ≠ d from by have h1 := LTE.out; rw [HXD.out]; omega)
      have NEDE := Lib.hid (NEED.out.symm)
      clear LB LTE
      go_upto_region 11 with (refine storeX (.tmp 13) (.tmp 72) _ (envC xr r) _ tyEnv rfl (envC_one _ _) (heap_alloc_new _ _) rfl rfl rfl rfl rfl ?_; rw [setRowG_fold])
      rw [← HV.out]
      (try rw [← HXD.out])
      clear HV HXD
      go_wp2_with (refine loadX (.tmp 13) d (envC xr r) tyEnv rfl D.out rfl rfl rfl ?_)
      refine (CI.out xr _ RD.out).mono ?_
      rintro e w7 ⟨⟨v3, rfl, how⟩, hb⟩
      have nHB := Lib.hid (belG HB.out hb HB.out.size)
      have nRE := Lib.hid (RE.out.go hb)
      have nKX := Lib.hid (KX.out.go hb)
      have nKP := Lib.hid (KP.out.go hb)
      have nRD := Lib.hid (RD.out.go hb)
      have nE := Lib.hid (Bx.go E.out hb)
      have nD := Lib.hid (Bx.go D.out hb)
      clear hb
      clear HB RE KX KP RD E D
      have HB := nHB
      have RE := nRE
      have KX := nKX
      have KP := nKP
      have RD := nRD
      have E := nE
      have D := nD
      clear nHB nRE nKX nKP nRD nE nD
      obtain ⟨y3, rfl, hk⟩ := how.keyE
      have K3 := Lib.hid hk
      clear hk how
      rw [HNR.out]
      have d7 := Bx.cell D.out (envC_7 xr r)
      have e7 := Bx.cell E.out (envC_7 x e)
      go_wp2_with fail
      refine (S1.out y2 y3 _ KP.out K3.out).mono ?_
      rintro e w8 ⟨rfl, rfl⟩
      go_wp2_with fail
      refine (S2.out xr.tag x.tag _ RD.out.2 RE.out.2).mono ?_
      rintro e w9 ⟨rfl, rfl⟩
      go_wp2_with fail
      go_ret
      exact ⟨by first | rfl | (simp; done) | (simp; omega), HB.out⟩
end Go.Proofs.Ytjkkceecagbjjaa
