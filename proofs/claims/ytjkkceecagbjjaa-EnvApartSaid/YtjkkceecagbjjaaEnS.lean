
/- shown: the document's example (env). -/
import Derived.Test.YtjkkceecagbjjaaJ17
import Derived.Deep.OwnRows
namespace Go.Proofs.Ytjkkceecagbjjaa
open Go.RowKit

def t16 : List UInt8 := List.replicate 16 0
def b12 : List UInt8 := [2, 1, 0, 0, 0, 0, 0, 0, 0, 3, 0, 0, 0, 0, 0, 0, 0, 4, 0, 0, 0, 1, 0, 0, 0, 0, 0, 0, 0, 0, 255]
def c12 : List UInt8 := b12 ++ t16
def e12 : Ev := ⟨2, 1, 3, 4, 1, 0, [255], t16⟩
set_option maxRecDepth 100000 in
theorem e12_right : RightE e12 := by decide
set_option maxRecDepth 100000 in
theorem e12_in : inL e12 = b12 := by kernel_rfl
set_option maxRecDepth 100000 in
theorem e12_input : inputE e12 = (b12, 0) := by unfold inputE; rw [if_pos e12_right.1, e12_in]
set_option maxRecDepth 100000 in
theorem e12_write : writeE e12 = (c12, 0) := by unfold writeE; rw [if_pos e12_right, e12_in]; rfl
set_option maxRecDepth 100000 in
theorem e12_read : readE c12 = (e12, 0) := by have h := read_write e12_right; rw [e12_in] at h; exact h
set_option maxRecDepth 100000 in
theorem e12_ne : ¬ e12 = ev0 := fun h => by have h1 := congrArg Ev.kind h; exact absurd h1 (by decide)
set_option maxRecDepth 100000 in
theorem ev0_no : ¬ RightE ev0 := by decide
set_option maxRecDepth 100000 in
theorem tag12_any (W : World) : Calls Try.prog 22 #[] W fun e W' => (∃ y : Wke, e = .returned (.slice y.1 16 y.2) ∧ KeyE W' y t16) ∧ Below W.heap.size W W' := by
  have hmk : (Instr.makeSlice 23 (.int .i64 16) (.int .i64 16)).run Try.prog W = .ok (.slice (some ⟨W.heap.size, 0, none⟩) 16 16) (W.alloc (.cells (madeCells #[.int .u8 0] 16) 5)) := run_make_row' (P := Try.prog) 23 5 (.int .u8 0) 1 Try.underlying23 info5 rfl .i64 .i64 16 (by omega) (by omega) W
  have hrow := World.rowIs_made W (.int .u8 0) 16 5
  have hbel : Below W.heap.size W (W.alloc (.cells (madeCells #[.int .u8 0] 16) 5)) := (Below.refl _ _).alloc (Nat.le_refl _) _
  have hsl := Sl.row (l := t16) hrow (by decide) (by decide) (fun j hj => by
    have e : t16[j] = 0 := by show (List.replicate 16 (0 : UInt8))[j] = 0; exact List.getElem_replicate _
    rw [e]; rfl)
  obtain ⟨A, c, h1, h2, h3, h4⟩ := hsl
  have HS := Lib.hid h4
  have HB := Lib.hid hbel
  have H1 := Lib.hid h1
  have H2 := Lib.hid h2
  have H3 := Lib.hid h3
  clear hrow hbel h1 h2 h3 h4
  go_enter Try.func22, Try.ntmps22
  go_wp2_with fail
  clear hmk
  go_ret
  exact ⟨⟨(A, c), congrArg Ending.returned H1.out, H2.out, H3.out, HS.out⟩, HB.out⟩
set_option maxRecDepth 100000 in
theorem ex12_in (x : We) (W : World) (h : EnvR W x e12) : Calls Try.prog 11 #[.agg (envC x e12)] W fun e W' => AnsKe W' e b12 31 0 ∧ Below W.heap.size W W' := by
  have h := eInput_any x e12 W e12_right.k (right_64e e12_right) h
  rw [e12_input] at h
  exact h.mono fun _ _ h => ⟨h.1.ke, h.2⟩
set_option maxRecDepth 100000 in
theorem ex12_wr (x : We) (W : World) (h : EnvR W x e12) : Calls Try.prog 13 #[.agg (envC x e12)] W fun e W' => AnsKe W' e c12 47 0 ∧ Below W.heap.size W W' := by
  have h := eWrite_any x e12 W e12_right.k (right_64e e12_right) h
  rw [e12_write] at h
  exact h.mono fun _ _ h => ⟨h.1.ke, h.2⟩
set_option maxRecDepth 100000 in
theorem ex12_rd (y : Wke) (W : World) (h : KeyE W y c12) : Calls Try.prog 20 #[.slice y.1 47 y.2] W fun e W' => AnsEv W' e e12 0 ∧ Below W.heap.size W W' := by
  have h := eRead_any y c12 W (by decide) h
  rw [e12_read] at h
  exact h
set_option maxRecDepth 100000 in
theorem ex12_hx (y : Wke) (W : World) (h : KeyE W y b12) : Calls Try.prog 23 #[.slice y.1 31 y.2] W fun e W' => e = .returned (.string ⟨#[48, 50, 48, 49, 48, 48, 48, 48, 48, 48, 48, 48, 48, 48, 48, 48, 48, 48, 48, 51, 48, 48, 48, 48, 48, 48, 48, 48, 48, 48, 48, 48, 48, 48, 48, 52, 48, 48, 48, 48, 48, 48, 48, 49, 48, 48, 48, 48, 48, 48, 48, 48, 48, 48, 48, 48, 48, 48, 48, 48, 102, 102]⟩) ∧ Below W.heap.size W W' :=
  (refHex_any y.1 b12 y.2 W (by decide) h.2.2).mono fun e W' h => ⟨h.1.trans (by rfl), h.2⟩
set_option maxRecDepth 100000 in
theorem ex12_s1 (x y : We) (W : World) (h : EnvR W x e12) (k : EnvR W y e12) : Calls Try.prog 18 #[.agg (envC x e12), .agg (envC y e12)] W fun e W' => e = .returned (.bool true) ∧ Below W.heap.size W W' := by
  have h := eSame_any x y e12 e12 W e12_right.k e12_right.k (right_64e e12_right) (right_64e e12_right) h k
  rw [decide_eq_true rfl] at h
  exact h
set_option maxRecDepth 100000 in
theorem ex12_s2 (x : We) (W : World) (h : EnvR W x e12) : Calls Try.prog 18 #[.agg (envC x e12), .agg #[.int .i64 0, .int .i64 0, .int .i64 0, .int .i64 0, .int .i64 0, .int .i64 0, .slice none 0 0, .slice none 0 0]] W fun e W' => e = .returned (.bool false) ∧ Below W.heap.size W W' := by
  have h := eSame_any x we0 e12 ev0 W e12_right.k ⟨by decide, by decide⟩ (right_64e e12_right) ev0_64 h (envR0 W)
  rw [decide_eq_false e12_ne] at h
  exact h
set_option maxRecDepth 100000 in
theorem ex12_r1 (x : We) (W : World) (h : EnvR W x e12) : Calls Try.prog 16 #[.agg (envC x e12)] W fun e W' => e = .returned (.bool true) ∧ Below W.heap.size W W' := by
  have h := eRight_any x e12 W e12_right.k (right_64e e12_right) h
  rw [decide_eq_true e12_right] at h
  exact h
set_option maxRecDepth 100000 in
theorem ex12_r2 (W : World) : Calls Try.prog 16 #[.agg #[.int .i64 0, .int .i64 0, .int .i64 0, .int .i64 0, .int .i64 0, .int .i64 0, .slice none 0 0, .slice none 0 0]] W fun e W' => e = .returned (.bool false) ∧ Below W.heap.size W W' := by
  have h := eRight_any we0 ev0 W ⟨by decide, by decide⟩ ev0_64 (envR0 W)
  rw [decide_eq_false ev0_no] at h
  exact h
set_option maxRecDepth 100000 in
set_option maxHeartbeats 4000000 in
theorem shown12_any (W : World) :
    Calls Try.prog 9 #[] W fun e W' => e = .returned (.bool true) ∧ Below W.heap.size W W' := by
  obtain ⟨V, hV, hb, hg⟩ := bx1 W 5 #[.int .u8 255]
  have HB := Lib.hid hb
  have HV := Lib.hid hV
  have K1 := Lib.hid (show KeyE V (some ⟨W.heap.size, 0, none⟩, 1) [255] from ⟨Nat.le_refl 1, (by decide : 1 ≤ 9223372036854775807), fun _ => ⟨W.heap.size, 0, rfl, hg.lt, fun j hj => by
      have e : j = 0 := by simp only [List.length_cons, List.length_nil] at hj; omega
      subst e
      exact hg.cell rfl⟩⟩)
  clear hV hb hg
  have Ein := Lib.hid ex12_in
  have Ewr := Lib.hid ex12_wr
  have Erd := Lib.hid ex12_rd
  have Ehx := Lib.hid ex12_hx
  have Es1 := Lib.hid ex12_s1
  have Es2 := Lib.hid ex12_s2
  have Er1 := Lib.hid ex12_r1
  have Er2 := Lib.hid ex12_r2
  go_enter Try.func9, Try.ntmps9
  go_wp2_with fail
  rw [← HV.out]
  clear HV
  refine (tag12_any _).mono ?_
  rintro e w1 ⟨⟨yt, rfl, hk⟩, hb⟩
  have nHB := Lib.hid (belG HB.out hb HB.out.size)
  have nK1 := Lib.hid (K1.out.go hb)
  clear hb
  clear HB K1
  have HB := nHB
  have K1 := nK1
  clear nHB nK1
  have KT := Lib.hid hk
  clear hk
  have RE := Lib.hid (show EnvR w1 ⟨(some ⟨W.heap.size, 0, none⟩, 1), yt⟩ e12 from ⟨K1.out, KT.out⟩)
  clear K1 KT
  have LB := Lib.hid HB.out.size
  obtain ⟨V1, hV1⟩ : ∃ V, V = w1.alloc (.cells (envC ⟨(some ⟨W.heap.size, 0, none⟩, 1), yt⟩ e12) 25) := ⟨_, rfl⟩
  have ha := (Below.refl w1.heap.size w1).alloc (Nat.le_refl _) (.cells (envC ⟨(some ⟨W.heap.size, 0, none⟩, 1), yt⟩ e12) 25)
  have hg := heap_alloc_new w1 (.cells (envC ⟨(some ⟨W.heap.size, 0, none⟩, 1), yt⟩ e12) 25)
  have nHB := Lib.hid (HB.out.alloc HB.out.size (.cells (envC ⟨(some ⟨W.heap.size, 0, none⟩, 1), yt⟩ e12) 25))
  rw [← hV1] at ha hg nHB
  have nRE := Lib.hid (RE.out.go ha)
  obtain ⟨e, he⟩ : ∃ g, g = w1.heap.size := ⟨_, rfl⟩
  rw [← he] at hg
  have HXE := Lib.hid he
  have E := Lib.hid hg
  have HV := Lib.hid hV1
  clear ha hg hV1 he
  clear HB RE
  have HB := nHB
  have RE := nRE
  clear nHB nRE
  have LEE := Lib.hid (show W.heap.size ≤ e from by rw [HXE.out]; exact LB.out)
  clear LB
  go_upto_region 2 with (refine storeX (.tmp 1) (.tmp 11) _ (envC ⟨(some ⟨W.heap.size, 0, none⟩, 1), yt⟩ e12) _ tyEnv rfl (envC_one _ _) (heap_alloc_new _ _) rfl rfl rfl rfl rfl ?_; rw [setRowG_fold])
  rw [← HV.out]
  (try rw [← HXE.out])
  clear HV HXE
  generalize e12 = ee at *
  generalize b12 = bb at *
  generalize c12 = cc at *
  obtain ⟨x1, hx1⟩ : ∃ x : We, x = ⟨(some ⟨W.heap.size, 0, none⟩, 1), yt⟩ := ⟨_, rfl⟩
  rw [← hx1] at E RE
  clear hx1
  go_wp2_with (refine loadX (.tmp 1) e (envC x1 ee) tyEnv rfl E.out rfl rfl rfl ?_)
  refine (Ein.out x1 _ RE.out).mono ?_
  rintro e w2 ⟨⟨yb, rfl, hk⟩, hb⟩
  have nHB := Lib.hid (belG HB.out hb HB.out.size)
  have nRE := Lib.hid (RE.out.go hb)
  have nE := Lib.hid (Bx.go E.out hb)
  clear hb
  clear HB RE E
  have HB := nHB
  have RE := nRE
  have E := nE
  clear nHB nRE nE
  have KB := Lib.hid hk
  clear hk
  go_wp2_with (refine loadX (.tmp 1) e (envC x1 ee) tyEnv rfl E.out rfl rfl rfl ?_)
  refine (Ewr.out x1 _ RE.out).mono ?_
  rintro e w3 ⟨⟨yc, rfl, hk⟩, hb⟩
  have nHB := Lib.hid (belG HB.out hb HB.out.size)
  have nRE := Lib.hid (RE.out.go hb)
  have nKB := Lib.hid (KB.out.go hb)
  have nE := Lib.hid (Bx.go E.out hb)
  clear hb
  clear HB RE KB E
  have HB := nHB
  have RE := nRE
  have KB := nKB
  have E := nE
  clear nHB nRE nKB nE
  have KC := Lib.hid hk
  clear hk
  go_wp2_with fail
  refine (Erd.out yc _ KC.out).mono ?_
  rintro e w4 ⟨⟨xd, rfl, hk⟩, hb⟩
  have nHB := Lib.hid (belG HB.out hb HB.out.size)
  have nRE := Lib.hid (RE.out.go hb)
  have nKB := Lib.hid (KB.out.go hb)
  have nKC := Lib.hid (KC.out.go hb)
  have nE := Lib.hid (Bx.go E.out hb)
  clear hb
  clear HB RE KB KC E
  have HB := nHB
  have RE := nRE
  have KB := nKB
  have KC := nKC
  have E := nE
  clear nHB nRE nKB nKC nE
  have RD := Lib.hid hk
  clear hk
  have LB := Lib.hid HB.out.size
  have LTE := Lib.hid (show e < w4.heap.size from Bx.lt E.out)
  obtain ⟨V4, hV4⟩ : ∃ V, V = w4.alloc (.cells (envC xd ee) 25) := ⟨_, rfl⟩
  have ha := (Below.refl w4.heap.size w4).alloc (Nat.le_refl _) (.cells (envC xd ee) 25)
  have hg := heap_alloc_new w4 (.cells (envC xd ee) 25)
  have nHB := Lib.hid (HB.out.alloc HB.out.size (.cells (envC xd ee) 25))
  rw [← hV4] at ha hg nHB
  have nRE := Lib.hid (RE.out.go ha)
  have nKB := Lib.hid (KB.out.go ha)
  have nKC := Lib.hid (KC.out.go ha)
  have nRD := Lib.hid (RD.out.go ha)
  have nE := Lib.hid (Bx.go E.out ha)
  obtain ⟨d, hd⟩ : ∃ g, g = w4.heap.size := ⟨_, rfl⟩
  rw [← hd] at hg
  have HXD := Lib.hid hd
  have D := Lib.hid hg
  have HV := Lib.hid hV4
  clear ha hg hV4 hd
  clear HB RE KB KC RD E
  have HB := nHB
  have RE := nRE
  have KB := nKB
  have KC := nKC
  have RD := nRD
  have E := nE
  clear nHB nRE nKB nKC nRD nE
  have LED := Lib.hid (show W.heap.size ≤ d from by rw [HXD.out]; exact LB.out)
  have NEED := Lib.hid (show e ≠ d from by have h1 := LTE.out; rw [HXD.out]; omega)
  have NEDE := Lib.hid (NEED.out.symm)
  clear LB LTE
  go_upto_region 5 with (refine storeX (.tmp 6) (.tmp 25) _ (envC xd ee) _ tyEnv rfl (envC_one _ _) (heap_alloc_new _ _) rfl rfl rfl rfl rfl ?_; rw [setRowG_fold])
  rw [← HV.out]
  (try rw [← HXD.out])
  clear HV HXD
  go_wp2_with fail
  refine (Ehx.out yb _ KB.out).mono ?_
  rintro e w5 ⟨rfl, hb⟩
  have nHB := Lib.hid (belG HB.out hb HB.out.size)
  have nRE := Lib.hid (RE.out.go hb)
  have nKB := Lib.hid (KB.out.go hb)
  have nKC := Lib.hid (KC.out.go hb)
  have nRD := Lib.hid (RD.out.go hb)
  have nE := Lib.hid (Bx.go E.out hb)
  have nD := Lib.hid (Bx.go D.out hb)
  clear hb
  clear HB RE KB KC RD E D
  have HB := nHB
  have RE := nRE
  have KB := nKB
  have KC := nKC
  have RD := nRD
  have E := nE
  have D := nD
  clear nHB nRE nKB nKC nRD nE nD
  go_wp2_with (first | (refine loadX (.tmp 6) d (envC xd ee) tyEnv rfl D.out rfl rfl rfl ?_) | (refine loadX (.tmp 1) e (envC x1 ee) tyEnv rfl E.out rfl rfl rfl ?_))
  refine (Es1.out xd x1 _ RD.out RE.out).mono ?_
  rintro e w6 ⟨rfl, hb⟩
  have nHB := Lib.hid (belG HB.out hb HB.out.size)
  have nRE := Lib.hid (RE.out.go hb)
  have nKB := Lib.hid (KB.out.go hb)
  have nKC := Lib.hid (KC.out.go hb)
  have nRD := Lib.hid (RD.out.go hb)
  have nE := Lib.hid (Bx.go E.out hb)
  have nD := Lib.hid (Bx.go D.out hb)
  clear hb
  clear HB RE KB KC RD E D
  have HB := nHB
  have RE := nRE
  have KB := nKB
  have KC := nKC
  have RD := nRD
  have E := nE
  have D := nD
  clear nHB nRE nKB nKC nRD nE nD
  go_wp2_with (refine loadX (.tmp 1) e (envC x1 ee) tyEnv rfl E.out rfl rfl rfl ?_)
  refine (Er1.out x1 _ RE.out).mono ?_
  rintro e w7 ⟨rfl, hb⟩
  have nHB := Lib.hid (belG HB.out hb HB.out.size)
  have nRE := Lib.hid (RE.out.go hb)
  have nKB := Lib.hid (KB.out.go hb)
  have nKC := Lib.hid (KC.out.go hb)
  have nRD := Lib.hid (RD.out.go hb)
  have nE := Lib.hid (Bx.go E.out hb)
  have nD := Lib.hid (Bx.go D.out hb)
  clear hb
  clear HB RE KB KC RD E D
  have HB := nHB
  have RE := nRE
  have KB := nKB
  have KC := nKC
  have RD := nRD
  have E := nE
  have D := nD
  clear nHB nRE nKB nKC nRD nE nD
  go_wp2_with fail
  refine (Er2.out _).mono ?_
  rintro e w8 ⟨rfl, hb⟩
  have nHB := Lib.hid (belG HB.out hb HB.out.size)
  have nRE := Lib.hid (RE.out.go hb)
  have nKB := Lib.hid (KB.out.go hb)
  have nKC := Lib.hid (KC.out.go hb)
  have nRD := Lib.hid (RD.out.go hb)
  have nE := Lib.hid (Bx.go E.out hb)
  have nD := Lib.hid (Bx.go D.out hb)
  clear hb
  clear HB RE KB KC RD E D
  have HB := nHB
  have RE := nRE
  have KB := nKB
  have KC := nKC
  have RD := nRD
  have E := nE
  have D := nD
  clear nHB nRE nKB nKC nRD nE nD
  go_wp2_with (refine loadX (.tmp 1) e (envC x1 ee) tyEnv rfl E.out rfl rfl rfl ?_)
  refine (Es2.out x1 _ RE.out).mono ?_
  rintro e w9 ⟨rfl, hb⟩
  have nHB := Lib.hid (belG HB.out hb HB.out.size)
  have nRE := Lib.hid (RE.out.go hb)
  have nKB := Lib.hid (KB.out.go hb)
  have nKC := Lib.hid (KC.out.go hb)
  have nRD := Lib.hid (RD.out.go hb)
  have nE := Lib.hid (Bx.go E.out hb)
  have nD := Lib.hid (Bx.go D.out hb)
  clear hb
  clear HB RE KB KC RD E D
  have HB := nHB
  have RE := nRE
  have KB := nKB
  have KC := nKC
  have RD := nRD
  have E := nE
  have D := nD
  clear nHB nRE nKB nKC nRD nE nD
  go_wp2_with fail
  go_ret
  exact ⟨by first | rfl | (simp; done), HB.out⟩
end Go.Proofs.Ytjkkceecagbjjaa
