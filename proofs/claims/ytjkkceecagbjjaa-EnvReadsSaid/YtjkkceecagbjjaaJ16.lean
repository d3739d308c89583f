
/- Package env: each. -/
import Derived.Test.YtjkkceecagbjjaaJ15
import Derived.Test.YtjkkceecagbjjaaJ02
namespace Go.Proofs.Ytjkkceecagbjjaa
open Go.RowKit

def ptrsC (g : Nat) : Array Value := #[.pointer (some ⟨g, 0, none⟩), .pointer (some ⟨g, 1, none⟩), .pointer (some ⟨g, 2, none⟩), .pointer (some ⟨g, 3, none⟩), .pointer (some ⟨g, 4, none⟩), .pointer (some ⟨g, 5, none⟩)]
set_option maxRecDepth 100000 in
theorem ptrsC_at (g k : Nat) (hk : k < 6) : (ptrsC g)[k]? = some (.pointer (some ⟨g, k, none⟩)) := by
  match k, hk with | 0, _ => rfl | 1, _ => rfl | 2, _ => rfl | 3, _ => rfl | 4, _ => rfl | 5, _ => rfl | k + 6, h => omega
set_option maxRecDepth 100000 in
set_option maxHeartbeats 1000000 in
theorem each_any (f : FuncId) (hf : f = 26 ∨ f = 31) (caps : Array Value) (g : Nat) (P : Nat → World → Prop) (W : World) (hst : ∀ k w w', P k w → Sd W.heap.size w w' → P k w') (H : OneOk f caps W.heap.size g P) (hP : P 0 W) :
    Calls Try.prog 25 #[.pointer (some ⟨g, 0, none⟩), .func (.func f) #[] caps] W fun e w' => (∃ v, e = .returned v) ∧ P 6 w' ∧ W.heap.size ≤ w'.heap.size := by
  have HA := Lib.hid (fun sl w h2 => along_any (.func (.func f) #[] caps) sl w rfl h2)
  have HC := Lib.hid (fun g0 g1 k hk w hB hg0 hg1 hb hp => along1_any f hf caps W.heap.size g g0 g1 P hst H k hk w hB hg0 hg1 hb hp)
  have HST := Lib.hid hst
  have HPP := Lib.hid (fun w' (h : Below W.heap.size W w') => hst 0 W w' hP (Sd.of h))
  clear hst H hP hf
  go_enter Try.func25, Try.ntmps25
  go_wp2_with fail
  refine (HA.out _ _ rfl).mono ?_
  rintro e w1 ⟨rfl, hw⟩
  have s1 : ∀ (w : World) (o : Obj), (w.alloc o).heap.size = w.heap.size + 1 := fun w o => by simp
  have hb1 : Below W.heap.size W w1 := by
    rw [hw]
    exact (((Below.refl _ _).alloc (Nat.le_refl _) _).alloc (by rw [s1]; omega) _).alloc (by rw [s1, s1]; omega) _
  have hx : Bxs w1 f caps W.heap.size (W.heap.size + 1) 0 := by
    have h1 := Bx.new (W.alloc (.cells widthsC 3)) 50 #[.func (.func f) #[] caps]
    have h2 := Bx.new ((W.alloc (.cells widthsC 3)).alloc (.cells #[.func (.func f) #[] caps] 50)) 67 #[wsl W.heap.size 0]
    rw [s1] at h1
    rw [s1, s1] at h2
    rw [hw]
    exact ⟨h1.alloc _, h2, ((Bx.new W _ _).alloc _).alloc _⟩
  (try simp only [s1])
  clear hw
  have HB1 := Lib.hid hb1
  have HX1 := Lib.hid hx
  clear hb1 hx HA
  go_wp2_with fail
  have HB1d := Lib.hid HB1.out.drew
  have HX1d := Lib.hid (show Bxs w1.drew f caps W.heap.size (W.heap.size + 1) 0 from ⟨HX1.out.one.drew, HX1.out.left.drew, HX1.out.row.drew⟩)
  go_region
  go_wp2_with fail
  have hb2 : Below W.heap.size W (w1.alloc (.cells (ptrsC g) 48)).drew := (HB1.out.alloc HB1.out.size _).drew
  have hx2 : Bxs (w1.alloc (.cells (ptrsC g) 48)).drew f caps W.heap.size (W.heap.size + 1) 0 := ⟨(HX1.out.one.alloc _).drew, (HX1.out.left.alloc _).drew, (HX1.out.row.alloc _).drew⟩
  have hr2 : Bx (w1.alloc (.cells (ptrsC g) 48)).drew w1.heap.size 48 (ptrsC g) := (Bx.new w1 _ _).drew
  have HB2 := Lib.hid hb2
  have HX2 := Lib.hid hx2
  have HR2 := Lib.hid hr2
  have HGE := Lib.hid (show W.heap.size ≤ w1.heap.size from HB1.out.size)
  have HNE := Lib.hid (show w1.heap.size ≠ W.heap.size + 1 + 1 from by have := HX1.out.left.lt; omega)
  clear hb2 hx2 hr2 HB1d HX1d HX1 HB1
  unfold ptrsC at HB2 HX2
  generalize w1.heap.size = g3 at *
  go_loopw [32] (fun i wr => ∃ k : Nat, k ≤ 6 ∧ i = .int .i64 k ∧ P k wr ∧ Bxs wr f caps W.heap.size (W.heap.size + 1) k ∧ Bx wr g3 48 (ptrsC g) ∧ W.heap.size ≤ wr.heap.size) (fun i _ => 6 - (intOf i).toNat)
  case atStart => exact ⟨0, by omega, rfl, HPP.out _ HB2.out, HX2.out, HR2.out, HB2.out.size⟩
  case round =>
    obtain ⟨k, hk, rfl, hp, hx, hr, hs⟩ := hrel
    have HPK := Lib.hid hp
    have HXK := Lib.hid hx
    have HRK := Lib.hid hr
    have HSK := Lib.hid hs
    clear hp hx hr hs HB2 HX2 HR2 HPP
    by_cases hlt : k < 6
    · have c1 := HRK.out.cell (ptrsC_at g k hlt)
      have CC := Lib.hid (HC.out W.heap.size (W.heap.size + 1) k hlt wr HSK.out (Nat.le_refl _) (Nat.le_succ _) HXK.out HPK.out)
      have hlti : (k : Int) < 6 := by omega
      have hk0 : (0 : Int) ≤ (k : Int) := Int.natCast_nonneg _
      clear HC HPK HXK
      go_wp2_with fail
      refine CC.out.mono ?_
      rintro e w2 ⟨⟨v, rfl⟩, hp, hx, hs2, hkeep⟩
      have HPK := Lib.hid hp
      have HXK := Lib.hid hx
      have HS2 := Lib.hid (Nat.le_trans HSK.out hs2)
      have HR2 := Lib.hid (hkeep _ _ _ HGE.out HNE.out (by decide) HRK.out)
      clear hp hx hs2 hkeep CC HRK HSK c1
      go_wp2_with fail
      go_roundw
      case rel => exact ⟨k + 1, by omega, by go_num, HPK.out, HXK.out, HR2.out, HS2.out⟩
      case measure => simp [intOf]; omega
    · obtain rfl : k = 6 := by omega
      clear HC hlt
      go_wp2_with fail
      go_end0
      exact ⟨⟨_, rfl⟩, HPK.out, HSK.out⟩
end Go.Proofs.Ytjkkceecagbjjaa
/- Package env: Input's closure. -/

namespace Go.Proofs.Ytjkkceecagbjjaa
open Go.RowKit

/-- an envelope's numbers, in their order -/
def partE (e : Ev) (k : Nat) : Int := [e.kind, e.dir, e.e0, e.e1, e.gen, e.seq].getD k 0
/-- what stands ahead of the k-th -/
def headL (e : Ev) : Nat → List UInt8
  | 0 => []
  | k + 1 => headL e k ++ bgE (partE e k) (wdE k)
set_option maxRecDepth 100000 in
theorem headL_6 (e : Ev) : headL e 6 = headE e := by
  show ((((([] ++ bgE e.kind 1) ++ bgE e.dir 1) ++ bgE e.e0 8) ++ bgE e.e1 8) ++ bgE e.gen 4) ++ bgE e.seq 8 = _
  unfold headE
  simp only [List.append_assoc, List.nil_append]
set_option maxRecDepth 100000 in
theorem wdE_le {k : Nat} (hk : k < 6) : 1 ≤ wdE k ∧ wdE k ≤ 8 := by
  match k, hk with | 0, _ => decide | 1, _ => decide | 2, _ => decide | 3, _ => decide | 4, _ => decide | 5, _ => decide | k + 6, h => omega
set_option maxRecDepth 100000 in
theorem headL_len (e : Ev) : ∀ k, k ≤ 6 → (headL e k).length ≤ 8 * k
  | 0, _ => Nat.le_refl _
  | k + 1, h => by
    have h1 := headL_len e k (by omega)
    have h2 := wdE_le (show k < 6 by omega)
    show (headL e k ++ bgE (partE e k) (wdE k)).length ≤ _
    rw [List.length_append, bgE_len]
    omega
set_option maxRecDepth 100000 in
theorem partE_at (x : We) (e : Ev) (k : Nat) (hk : k < 6) : (envC x e)[k]? = some (.int .i64 (partE e k)) := by
  match k, hk with | 0, _ => rfl | 1, _ => rfl | 2, _ => rfl | 3, _ => rfl | 4, _ => rfl | 5, _ => rfl | k + 6, h => omega
set_option maxRecDepth 100000 in
theorem partE_in {e : Ev} (hp : PartsE e) (k : Nat) (hk : k < 6) : 0 ≤ partE e k ∧ partE e k ≤ 9223372036854775807 ∧ (partE e k).toNat < 256 ^ wdE k := by
  obtain ⟨⟨a1, a2⟩, ⟨b1, b2⟩, ⟨c1, c2⟩, k', d, g1, g2, -, -⟩ := hp
  match k, hk with
  | 0, _ => show 0 ≤ e.kind ∧ e.kind ≤ _ ∧ e.kind.toNat < 256; omega
  | 1, _ => show 0 ≤ e.dir ∧ e.dir ≤ _ ∧ e.dir.toNat < 256; omega
  | 2, _ => show 0 ≤ e.e0 ∧ e.e0 ≤ _ ∧ e.e0.toNat < 18446744073709551616; omega
  | 3, _ => show 0 ≤ e.e1 ∧ e.e1 ≤ _ ∧ e.e1.toNat < 18446744073709551616; omega
  | 4, _ => show 0 ≤ e.gen ∧ e.gen ≤ _ ∧ e.gen.toNat < 4294967296; omega
  | 5, _ => show 0 ≤ e.seq ∧ e.seq ≤ _ ∧ e.seq.toNat < 18446744073709551616; omega
  | k + 6, h => omega
set_option maxRecDepth 100000 in
/-- a number's bytes: Big of the landed code -/
theorem bigE_any (n : Int) (w : Nat) (W : World) (h0 : 0 ≤ n) (hn : n ≤ 9223372036854775807) (hw1 : 1 ≤ w) (hw2 : w ≤ 8) (hnP : n.toNat < 256 ^ w) :
    Calls Try.prog 27 #[.int .i64 n, .int .i64 w] W fun e W' => (∃ A c, e = .returned (.tuple #[.slice A w c, .int .i64 0]) ∧ Rd W' W'.heap.size A (bgE n w)) ∧ Below W.heap.size W W' := by
  obtain ⟨k, rfl⟩ := Int.eq_ofNat_of_zero_le h0
  rw [bgE_nat rfl]
  refine (big_any k w W hw1 hw2 (by omega)).mono ?_
  rintro e w' ⟨h, hb⟩
  unfold BigR at h
  rw [if_pos (by simpa using hnP)] at h
  obtain ⟨v, rfl, A, c, rfl, -, -, hr⟩ := h
  rw [dgL_length]
  exact ⟨⟨A, c, rfl, hr⟩, hb⟩
/-- what holds behind k numbers: the row has their bytes -/
def PIn (W0 : World) (x : We) (e : Ev) (go : Nat) (k : Nat) (w : World) : Prop :=
  Below W0.heap.size W0 w ∧ BxE w W0.heap.size x e ∧ ∃ v, Bx w go 23 #[v] ∧ Ow w W0.heap.size v (headL e k)
set_option maxRecDepth 100000 in
theorem PIn.sd {W0 : World} {x : We} {e : Ev} {go B : Nat} (h1 : W0.heap.size < B) (h2 : go < B) (k : Nat) (w w' : World) (h : PIn W0 x e go k w) (hs : Sd B w w') : PIn W0 x e go k w' := by
  obtain ⟨hb, hx, v, hv, ho⟩ := h
  exact ⟨hs.bel hb (Nat.le_of_lt h1) hb.size, hs.bx hx h1, v, hs.bx hv h2, hs.ow ho⟩
set_option maxRecDepth 100000 in
set_option maxHeartbeats 1000000 in
theorem inputOne (W0 : World) (x : We) (e : Ev) (go B : Nat) (hp : PartsE e) (h1 : W0.heap.size < B) (h2 : W0.heap.size ≤ go) (h3 : go < B) : OneOk 26 #[.pointer (some ⟨go, 0, none⟩)] B W0.heap.size (PIn W0 x e go) := by
  rintro k hk w hB ⟨hb, hx, v, hv, ho⟩
  obtain ⟨n, hn⟩ : ∃ n, n = partE e k := ⟨_, rfl⟩
  obtain ⟨m, hm⟩ : ∃ m, m = wdE k := ⟨_, rfl⟩
  have hin := partE_in hp k hk
  have hwd := wdE_le hk
  have hc := hx.cell (partE_at x e k hk)
  have hll := headL_len e k (by omega)
  rw [← hn] at hc hin
  rw [← hm] at hin hwd ⊢
  have HH := Lib.hid (show headL e (k + 1) = headL e k ++ bgE n m from by rw [hn, hm]; rfl)
  have CB := Lib.hid (fun w => bigE_any n m w hin.1 hin.2.1 hwd.1 hwd.2 hin.2.2)
  have HLN := Lib.hid (show m = (bgE n m).length from (bgE_len _ _).symm)
  have HB := Lib.hid hb
  have HX := Lib.hid hx
  have HV := Lib.hid hv
  have HO := Lib.hid ho
  have H1 := Lib.hid h1
  have H2 := Lib.hid h2
  have H3 := Lib.hid h3
  have HLL := Lib.hid (show (headL e k).length ≤ 48 from by omega)
  have HW8 := Lib.hid hwd.2
  clear hin hwd hx hb hv ho h1 h2 h3 hp hn hm hll hB
  go_enter Try.func26, Try.ntmps26
  go_wp2_with fail
  refine (CB.out _).mono ?_
  rintro r w1 ⟨⟨A, c, rfl, hr⟩, hb1⟩
  have HR := Lib.hid hr
  have HB1 := Lib.hid (belG HB.out hb1 HB.out.size)
  have HX1 := Lib.hid (HX.out.go hb1)
  have HV1 := Lib.hid (HV.out.go hb1)
  have HO1 := Lib.hid (HO.out.go hb1)
  have HK1 := Lib.hid (Kp.below (B := B) hb1)
  have d1 : w1.cell? ⟨go, 0, none⟩ = some v := HV1.out.cell rfl
  clear hr hb1 HB HX HV HO hc CB
  go_wp2_with (at_builtin; refine wpList_appS _ rfl (.tmp 15) (.tmp 16) rfl W0.heap.size _ (headL e k) (bgE n m) rfl (by exact HO1.out) A m c w1.heap.size rfl HLN.out (by exact HR.out) (by have := HLL.out; have := HW8.out; have := HLN.out; omega) (by exact HB1.out.size) ?_; intro v2 w2 hown2 hgrow2; obtain ⟨A2, c2, e2, -, -, -⟩ := hown2.form; obtain ⟨m2, hm2⟩ : ∃ q, q = (headL e k ++ bgE n m).length := ⟨_, rfl⟩; rw [← hm2] at e2; subst e2; clear hm2; have HO2 := Lib.hid hown2; have HB2 := Lib.hid (Ow.below HO1.out HB1.out hgrow2 HB1.out.size); have HK2 := Lib.hid (HK1.out.trans (Kp.grown HO1.out hgrow2)); have hv2 := (Kp.grown (B := 0) HO1.out hgrow2).keep _ _ _ (Nat.zero_le _) (by decide) HV1.out; have HV2 := Lib.hid hv2; have HX2 := Lib.hid ((Kp.grown (B := 0) HO1.out hgrow2).keep _ _ _ (Nat.zero_le _) (by decide) HX1.out); have d2 := hv2.thaw 0; have d3 : w2.cell? ⟨go, 0, none⟩ = some v := hv2.cell rfl; clear hown2 hgrow2 hv2 d1)
  go_end0
  have hne : W0.heap.size ≠ go := Bx.ne HX2.out HV2.out (by decide)
  refine ⟨⟨_, rfl⟩, ⟨HB2.out.setCell H2.out _, HX2.out.setOther hne _ _, _, HV2.out.set rfl, ?_⟩, HK2.out.trans (Kp.set H3.out)⟩
  rw [HH.out]
  exact HO2.out.setE HV2.out (by decide)
end Go.Proofs.Ytjkkceecagbjjaa
/- Package env: Input, Write. -/

namespace Go.Proofs.Ytjkkceecagbjjaa
open Go.RowKit

set_option maxRecDepth 100000 in
set_option maxHeartbeats 4000000 in
theorem input0_any (x : We) (e : Ev) (W : World) (hr : EnvR W x e) : Calls Try.prog 11 #[.agg (envC x e)] W fun r W' => AnsOwE W.heap.size W' r (inputE e).1 (inputE e).2 ∧ Below W.heap.size W W' := by
  obtain ⟨V, C, hC, hV, hb, hg⟩ := bxE1 W x e
  have HB := Lib.hid hb
  have HV := Lib.hid hV
  have HG := Lib.hid hg
  have RE := Lib.hid (fun w (h : Below W.heap.size W w) => hr.go h)
  have CM := Lib.hid (fun w => may_any x e w)
  rw [← hC]
  by_cases hp : PartsE e
  case neg =>
    rw [decide_eq_false hp] at CM
    have HI := Lib.hid (show inputE e = ([], 1) from by unfold inputE; rw [if_neg hp])
    clear hC hV hb hg hr hp RE
    go_enter Try.func11, Try.ntmps11
    go_upto_region 1 with (fail)
    rw [← HV.out]
    clear HV
    go_wp2_with (refine loadX (.tmp 1) W.heap.size _ tyEnv rfl HG.out rfl rfl rfl ?_)
    refine (CM.out _).mono ?_
    rintro e w1 ⟨rfl, hb⟩
    have HB1 := Lib.hid (belG HB.out hb HB.out.size)
    clear hb
    go_wp2_with fail
    go_ret2
    exact ⟨by rw [HI.out]; exact ⟨_, rfl, Ow.nil⟩, HB1.out⟩
  rw [decide_eq_true hp] at CM
  have HI := Lib.hid (show inputE e = (inL e, 0) from by unfold inputE; rw [if_pos hp])
  have HIL := Lib.hid (show headL e 6 ++ e.body = inL e from by rw [headL_6]; rfl)
  have HP := Lib.hid hp
  have HL6 := Lib.hid (headL_len e 6 (Nat.le_refl _))
  have HBL := Lib.hid (show e.body.length ≤ 900 from hp.2.2.2.2.2.2.2.2)
  obtain ⟨i0, hi, hz0, hz1, hz2⟩ := info_parts info5
  have HBX := Lib.hid (fun w (h : BxE w W.heap.size x e) => show w.cell? ⟨W.heap.size, 6, none⟩ = some (.slice x.body.1 e.body.length x.body.2) from h.cell rfl)
  obtain ⟨m, hm⟩ : ∃ m, m = e.body.length := ⟨_, rfl⟩
  rw [← hm] at HBX
  have HM := Lib.hid hm
  clear hC hV hb hg hr hp hm
  go_enter Try.func11, Try.ntmps11
  go_upto_region 1 with (fail)
  rw [← HV.out]
  clear HV
  go_wp2_with (refine loadX (.tmp 1) W.heap.size _ tyEnv rfl HG.out rfl rfl rfl ?_)
  refine (CM.out _).mono ?_
  rintro r w1 ⟨rfl, hb⟩
  have HB1 := Lib.hid (belG HB.out hb HB.out.size)
  have HG1 := Lib.hid (HG.out.go hb)
  clear hb HB HG CM
  go_wp2_with (at_make; refine wpList_make_own _ rfl _ _ 23 rfl W.heap.size 5 i0 (.int .u8 0) 1 Try.underlying23 hi hz0 hz1 _ _ _ 946 rfl rfl (by omega) (by rw [hz2]; omega) (by unfold maxLen; omega) (by exact HB1.out.size) ?_; intro w2 hown hgrow; have hb2 : Below W.heap.size W w2 := HB1.out.grown hgrow HB1.out.size (by intro k h; cases h); have HB2 := Lib.hid hb2; have HG2 := Lib.hid (show BxE w2 W.heap.size x e from (hgrow.block _ HG1.out.lt (by intro h; cases h)).trans HG1.out); have HO2 := Lib.hid (show Ow w2 W.heap.size (.slice (some ⟨w1.heap.size, 0, none⟩) 0 946) [] from hown); clear hown hgrow hb2)
  obtain ⟨V3, hV⟩ : ∃ V, V = w2.alloc (.cells #[.slice (some ⟨w1.heap.size, 0, none⟩) 0 946] 23) := ⟨_, rfl⟩
  rw [← hV]
  have hx3 : BxE V3 W.heap.size x e := by rw [hV]; exact HG2.out.alloc _
  have hy3 : Bx V3 w2.heap.size 23 #[.slice (some ⟨w1.heap.size, 0, none⟩) 0 946] := by rw [hV]; exact Bx.new _ _ _
  have ho3 : Ow V3 W.heap.size (.slice (some ⟨w1.heap.size, 0, none⟩) 0 946) [] := by rw [hV]; exact HO2.out.alloc _
  have hb3 : Below W.heap.size W V3 := by rw [hV]; exact HB2.out.alloc HB2.out.size _
  have C1 := Lib.hid (each_any 26 (.inl rfl) #[.pointer (some ⟨w2.heap.size, 0, none⟩)] W.heap.size (PIn W x e w2.heap.size) V3 (PIn.sd hx3.lt hy3.lt) (inputOne W x e w2.heap.size V3.heap.size HP.out hx3.lt HB2.out.size hy3.lt) ⟨hb3, hx3, _, hy3, ho3⟩)
  generalize w2.heap.size = go at *
  generalize w1.heap.size = gr at *
  clear hV hx3 hy3 ho3 hb3 HB1 HG1 HB2 HG2 HO2
  refine C1.out.mono ?_
  rintro r w4 ⟨⟨u, rfl⟩, ⟨hb4, hx4, v, hv4, ho4⟩, -⟩
  have HB4 := Lib.hid hb4
  have HO4 := Lib.hid ho4
  have d1 : w4.cell? ⟨go, 0, none⟩ = some v := hv4.cell rfl
  have d2 := HBX.out _ hx4
  have HR4 := Lib.hid (RE.out _ hb4).1.2.2
  obtain ⟨A, c, ev, -, -, -⟩ := ho4.form
  obtain ⟨q, hq⟩ : ∃ q, q = (headL e 6).length := ⟨_, rfl⟩
  rw [← hq] at ev
  subst ev
  clear hb4 hx4 hv4 ho4 hq C1 RE HBX HP
  go_wp2_with (at_builtin; refine wpList_appS _ rfl (.tmp 11) (.tmp 13) rfl W.heap.size _ (headL e 6) e.body rfl (by exact HO4.out) x.body.1 m x.body.2 w4.heap.size rfl HM.out (by exact HR4.out) (by have := HL6.out; have := HBL.out; omega) (by exact HB4.out.size) ?_; intro v2 w5 hown2 hgrow2; have HO5 := Lib.hid hown2; have HB5 := Lib.hid (Ow.below HO4.out HB4.out hgrow2 HB4.out.size); clear hown2 hgrow2)
  go_ret2
  refine ⟨⟨v2, ?_, ?_⟩, HB5.out⟩
  · rw [HI.out]
    rfl
  · rw [HI.out]
    have h := HO5.out
    rw [HIL.out] at h
    exact h
set_option maxRecDepth 100000 in
set_option maxHeartbeats 4000000 in
theorem write0_any (x : We) (e : Ev) (W : World) (hr : EnvR W x e) : Calls Try.prog 13 #[.agg (envC x e)] W fun r W' => AnsOwE W.heap.size W' r (writeE e).1 (writeE e).2 ∧ Below W.heap.size W W' := by
  obtain ⟨V, C, hC, hV, hb, hg⟩ := bxE1 W x e
  have HB := Lib.hid hb
  have HV := Lib.hid hV
  have HG := Lib.hid hg
  have RE := Lib.hid (fun w (h : Below W.heap.size W w) => hr.go h)
  have CM := Lib.hid (fun w => right0_any x e w)
  rw [← hC]
  by_cases hp : RightE e
  case neg =>
    rw [decide_eq_false hp] at CM
    have HI := Lib.hid (show writeE e = ([], 1) from by unfold writeE; rw [if_neg hp])
    clear hC hV hb hg hr hp RE
    go_enter Try.func13, Try.ntmps13
    go_upto_region 1 with (fail)
    rw [← HV.out]
    clear HV
    go_wp2_with (refine loadX (.tmp 1) W.heap.size _ tyEnv rfl HG.out rfl rfl rfl ?_)
    refine (CM.out _).mono ?_
    rintro e w1 ⟨rfl, hb⟩
    have HB1 := Lib.hid (belG HB.out hb HB.out.size)
    clear hb
    go_wp2_with fail
    go_ret2
    exact ⟨by rw [HI.out]; exact ⟨_, rfl, Ow.nil⟩, HB1.out⟩
  rw [decide_eq_true hp] at CM
  have HI := Lib.hid (show writeE e = (inL e ++ e.tag, 0) from by unfold writeE; rw [if_pos hp])
  have HL := Lib.hid (show (inL e).length + e.tag.length ≤ 1000 from by rw [inL_len, hp.2]; have := hp.1.2.2.2.2.2.2.2.2; omega)
  have CI := Lib.hid (fun w (h : EnvR w x e) => by
    have h1 := input0_any x e w h
    rw [show inputE e = (inL e, 0) from by unfold inputE; rw [if_pos hp.1]] at h1
    exact h1)
  have HBX := Lib.hid (fun w (h : BxE w W.heap.size x e) => show w.cell? ⟨W.heap.size, 7, none⟩ = some (.slice x.tag.1 e.tag.length x.tag.2) from h.cell rfl)
  obtain ⟨m, hm⟩ : ∃ m, m = e.tag.length := ⟨_, rfl⟩
  rw [← hm] at HBX
  have HM := Lib.hid hm
  clear hC hV hb hg hr hp hm
  go_enter Try.func13, Try.ntmps13
  go_upto_region 1 with (fail)
  rw [← HV.out]
  clear HV
  go_wp2_with (refine loadX (.tmp 1) W.heap.size _ tyEnv rfl HG.out rfl rfl rfl ?_)
  refine (CM.out _).mono ?_
  rintro r w1 ⟨rfl, hb⟩
  have HB1 := Lib.hid (belG HB.out hb HB.out.size)
  have HG1 := Lib.hid (HG.out.go hb)
  clear hb HB HG CM
  go_wp2_with (refine loadX (.tmp 1) W.heap.size _ tyEnv rfl HG1.out rfl rfl rfl ?_)
  refine (CI.out _ (RE.out _ HB1.out)).mono ?_
  rintro r w2 ⟨⟨v, rfl, ho⟩, hb⟩
  have HO2 := Lib.hid (ho.base12 HB1.out.size)
  have HB2 := Lib.hid (belG HB1.out hb HB1.out.size)
  have d2 := HBX.out _ (HG1.out.go hb)
  have HR2 := Lib.hid (RE.out _ HB2.out).2.2.2
  obtain ⟨A, c, ev, -, -, -⟩ := ho.form
  obtain ⟨q, hq⟩ : ∃ q, q = (inL e).length := ⟨_, rfl⟩
  rw [← hq] at ev
  subst ev
  clear hb ho hq CI RE HBX HB1 HG1
  go_wp2_with (at_builtin; refine wpList_appS _ rfl (.tmp 14) (.tmp 16) rfl W.heap.size _ (inL e) e.tag rfl (by exact HO2.out) x.tag.1 m x.tag.2 w2.heap.size rfl HM.out (by exact HR2.out) (by have := HL.out; omega) (by exact HB2.out.size) ?_; intro v2 w5 hown2 hgrow2; have HO5 := Lib.hid hown2; have HB5 := Lib.hid (Ow.below HO2.out HB2.out hgrow2 HB2.out.size); clear hown2 hgrow2)
  go_ret2
  refine ⟨⟨v2, ?_, ?_⟩, HB5.out⟩
  · rw [HI.out]
    rfl
  · rw [HI.out]
    exact HO5.out
end Go.Proofs.Ytjkkceecagbjjaa
/- Package env: Read's closure. -/

namespace Go.Proofs.Ytjkkceecagbjjaa
open Go.RowKit

/-- where the k-th number lies -/
def offE (k : Nat) : Nat := [0, 1, 2, 10, 18, 22, 30].getD k 0
set_option maxRecDepth 100000 in
theorem offE_next {k : Nat} (hk : k < 6) : offE (k + 1) = offE k + wdE k ∧ offE k + wdE k ≤ 30 := by
  match k, hk with | 0, _ => decide | 1, _ => decide | 2, _ => decide | 3, _ => decide | 4, _ => decide | 5, _ => decide | k + 6, h => omega
def tkK (b : List UInt8) (k : Nat) : Int := tkE b (offE k) (wdE k)
def setEv (e : Ev) (k : Nat) (v : Int) : Ev := ⟨if k = 0 then v else e.kind, if k = 1 then v else e.dir, if k = 2 then v else e.e0, if k = 3 then v else e.e1, if k = 4 then v else e.gen, if k = 5 then v else e.seq, e.body, e.tag⟩
set_option maxRecDepth 100000 in
theorem setEv_C (x : We) (e : Ev) (k : Nat) (v : Int) (hk : k < 6) : (envC x e).setIfInBounds k (.int .i64 v) = envC x (setEv e k v) := by
  match k, hk with | 0, _ => rfl | 1, _ => rfl | 2, _ => rfl | 3, _ => rfl | 4, _ => rfl | 5, _ => rfl | k + 6, h => omega
/-- the numbers of the first k places -/
def evR (b : List UInt8) : Nat → Ev
  | 0 => ev0
  | k + 1 => setEv (evR b k) k (tkK b k)
set_option maxRecDepth 100000 in
theorem evR_6 (b : List UInt8) : evR b 6 = ⟨tkE b 0 1, tkE b 1 1, tkE b 2 8, tkE b 10 8, tkE b 18 4, tkE b 22 8, [], []⟩ := rfl
/-- what holds behind k numbers that were taken -/
def PRd (W0 : World) (x : Wke) (b : List UInt8) (ge ga gf : Nat) (k : Nat) (w : World) : Prop :=
  Below W0.heap.size W0 w ∧ Bx w W0.heap.size 23 #[.slice x.1 b.length x.2] ∧ BxE w (W0.heap.size + 1) we0 ev0 ∧
  ∃ e p q, BxE w ge we0 e ∧ e.body = [] ∧ e.tag = [] ∧ Bx w ga 3 #[.int .i64 p] ∧ Bx w gf 28 #[.int .i64 q] ∧
    ((q = 0 ∧ p = (offE k : Nat) ∧ (∀ j, j < k → 0 ≤ tkK b j) ∧ e = evR b k) ∨ (q = 2 ∧ ∃ j, j < 6 ∧ tkK b j < 0))
set_option maxRecDepth 100000 in
theorem PRd.sd {W0 : World} {x : Wke} {b : List UInt8} {ge ga gf B : Nat} (h1 : W0.heap.size + 1 < B) (h2 : ge < B) (h3 : ga < B) (h4 : gf < B) (k : Nat) (w w' : World) (h : PRd W0 x b ge ga gf k w) (hs : Sd B w w') : PRd W0 x b ge ga gf k w' := by
  obtain ⟨hb, hx, hj, e, p, q, c1, c2, c3, c4, c5, c6⟩ := h
  exact ⟨hs.bel hb (by omega) hb.size, hs.bx hx (by omega), hs.bx hj h1, e, p, q, hs.bx c1 h2, c2, c3, hs.bx c4 h3, hs.bx c5 h4, c6⟩
set_option maxRecDepth 100000 in
set_option maxHeartbeats 1000000 in
theorem readOne (W0 : World) (x : Wke) (b : List UInt8) (ge ga gf B : Nat) (hl : 47 ≤ b.length) (hl2 : b.length ≤ 1000) (hr : KeyE W0 x b) (h2 : ge < B) (h3 : ga < B) (h4 : gf < B) (h5 : W0.heap.size + 1 < ge) (h6 : W0.heap.size ≤ ga) (h7 : W0.heap.size ≤ gf) :
    OneOk 31 #[.pointer (some ⟨gf, 0, none⟩), .pointer (some ⟨W0.heap.size, 0, none⟩), .pointer (some ⟨ga, 0, none⟩)] B ge (PRd W0 x b ge ga gf) := by
  rintro k hk w hB ⟨hb, hx, hj, e, p, q, c1, c2, c3, c4, c5, c6⟩
  have hcf : w.cell? ⟨gf, 0, none⟩ = some (.int .i64 q) := c5.cell rfl
  rcases c6 with ⟨rfl, rfl, c7, rfl⟩ | ⟨rfl, c7⟩
  case inr =>
    have HP := Lib.hid (show PRd W0 x b ge ga gf (k + 1) w from ⟨hb, hx, hj, e, p, 2, c1, c2, c3, c4, c5, .inr ⟨rfl, c7⟩⟩)
    clear hb hx hj c1 c2 c3 c4 c5 c7 hr
    go_enter Try.func31, Try.ntmps31
    go_wp2_with fail
    go_end0
    exact ⟨⟨_, rfl⟩, HP.out, Kp.refl _ _⟩
  have hca : w.cell? ⟨ga, 0, none⟩ = some (.int .i64 (offE k : Nat)) := c4.cell rfl
  have hcb : w.cell? ⟨W0.heap.size, 0, none⟩ = some (.slice x.1 b.length x.2) := hx.cell rfl
  have n1 : ge ≠ ga := c1.ne c4 (by decide)
  have n2 : ge ≠ gf := c1.ne c5 (by decide)
  have n3 : ga ≠ gf := c4.ne c5 (by decide)
  have n4 : W0.heap.size ≠ ge := hx.ne c1 (by decide)
  have n5 : W0.heap.size ≠ ga := hx.ne c4 (by decide)
  have n6 : W0.heap.size ≠ gf := hx.ne c5 (by decide)
  have n7 : W0.heap.size + 1 ≠ ge := by omega
  have n8 : W0.heap.size + 1 ≠ ga := hj.ne c4 (by decide)
  have n9 : W0.heap.size + 1 ≠ gf := hj.ne c5 (by decide)
  have HFIN := Lib.hid (fun (u p q : Int) (hq : (q = 0 ∧ p = (offE (k + 1) : Nat) ∧ u = tkK b k ∧ 0 ≤ tkK b k) ∨ (q = 2 ∧ tkK b k < 0)) =>
    show PRd W0 x b ge ga gf (k + 1) (((w.setCell ⟨ge, k, none⟩ (.int .i64 u)).setCell ⟨ga, 0, none⟩ (.int .i64 p)).setCell ⟨gf, 0, none⟩ (.int .i64 q)) ∧ Kp B w (((w.setCell ⟨ge, k, none⟩ (.int .i64 u)).setCell ⟨ga, 0, none⟩ (.int .i64 p)).setCell ⟨gf, 0, none⟩ (.int .i64 q)) from
    ⟨⟨((hb.setCell (p := ⟨ge, k, none⟩) (by show W0.heap.size ≤ ge; omega) _).setCell (p := ⟨ga, 0, none⟩) h6 _).setCell (p := ⟨gf, 0, none⟩) h7 _, ((hx.setOther n4 _ _).setOther n5 _ _).setOther n6 _ _, ((hj.setOther n7 _ _).setOther n8 _ _).setOther n9 _ _,
      setEv (evR b k) k u, p, q, ((c1.set (setEv_C _ _ _ _ hk)).setOther n1 _ _).setOther n2 _ _, c2, c3, ((c4.setOther n1.symm _ _).set rfl).setOther n3 _ _, ((c5.setOther n2.symm _ _).setOther n3.symm _ _).set rfl, by
        rcases hq with ⟨rfl, rfl, rfl, h⟩ | ⟨rfl, h⟩
        · refine .inl ⟨rfl, rfl, fun j hj => ?_, rfl⟩
          by_cases hjk : j = k
          · subst hjk; exact h
          · exact c7 j (by omega)
        · exact .inr ⟨rfl, k, hk, h⟩⟩,
      ((Kp.set h2).trans (Kp.set h3)).trans (Kp.set h4)⟩)
  have hf1 := c1.thaw k
  have hf2 : ∀ v, (w.setCell ⟨ge, k, none⟩ v).frozen? ⟨ga, 0, none⟩ = false := fun v => (c4.setOther n1.symm k v).thaw 0
  have hf3 : ∀ v u, ((w.setCell ⟨ge, k, none⟩ v).setCell ⟨ga, 0, none⟩ u).frozen? ⟨gf, 0, none⟩ = false := fun v u => ((c5.setOther n2.symm k v).setOther n3.symm 0 u).thaw 0
  have hz1 := c1.cell (partE_at _ _ k hk)
  have hz2 : ∀ v, (w.setCell ⟨ge, k, none⟩ v).cell? ⟨ga, 0, none⟩ = some (.int .i64 (offE k : Nat)) := fun v => (c4.setOther n1.symm k v).cell rfl
  have hz3 : ∀ v u, ((w.setCell ⟨ge, k, none⟩ v).setCell ⟨ga, 0, none⟩ u).cell? ⟨gf, 0, none⟩ = some (.int .i64 0) := fun v u => ((c5.setOther n2.symm k v).setOther n3.symm 0 u).cell rfl
  have hwd := wdE_le hk
  have hof := offE_next hk
  have CT := Lib.hid (takeBig_any x.1 b x.2 (offE k) (wdE k) w hwd.1 hwd.2 (by omega) (by omega) hr.1 (hr.go hb).2.2)
  have HT := Lib.hid (show tkK b k = (if numL ((b.drop (offE k)).take (wdE k)) ≤ 9223372036854775807 then (numL ((b.drop (offE k)).take (wdE k)) : Int) else -1) from rfl)
  have HO := Lib.hid (show ((offE (k + 1) : Nat) : Int) = (offE k : Int) + (wdE k : Int) from by rw [hof.1]; omega)
  unfold takeBigV at CT
  obtain ⟨n, hn⟩ : ∃ n, n = b.length := ⟨_, rfl⟩
  rw [← hn] at CT hcb
  clear hb hx hj c1 c2 c3 c4 c5 c7 hr hwd hn hl hl2 hB n1 n2 n3 n4 n5 n6 n7 n8 n9 h5
  generalize numL ((b.drop (offE k)).take (wdE k)) = N at *
  generalize tkK b k = t at *
  have hp0 : (0 : Int) ≤ (offE k : Int) := Int.natCast_nonneg _
  have hp1 : (offE k : Int) + (wdE k : Int) ≤ 30 := by omega
  clear hof
  generalize offE (k + 1) = o2 at *
  generalize offE k = o1 at *
  generalize wdE k = m at *
  by_cases hN : N ≤ 9223372036854775807
  · rw [if_pos hN] at CT HT
    go_enter Try.func31, Try.ntmps31
    go_wp2_with fail
    refine CT.out.mono ?_
    rintro r w1 ⟨rfl, hw⟩
    obtain rfl := hw
    go_wp2_with fail
    go_end0
    exact ⟨⟨_, rfl⟩, HFIN.out _ _ _ (.inl ⟨rfl, HO.out.symm, HT.out.symm, by rw [HT.out]; exact Int.natCast_nonneg _⟩)⟩
  · rw [if_neg hN] at CT HT
    go_enter Try.func31, Try.ntmps31
    go_wp2_with fail
    refine CT.out.mono ?_
    rintro r w1 ⟨rfl, hw⟩
    obtain rfl := hw
    go_wp2_with fail
    go_end0
    exact ⟨⟨_, rfl⟩, HFIN.out _ _ _ (.inr ⟨rfl, by rw [HT.out]; decide⟩)⟩
end Go.Proofs.Ytjkkceecagbjjaa
