
/- The document's answers (ring): Withdraw, Turn, Tick, Offer. -/
import Derived.Test.YtgnccfcdonoegaaJ03
import Derived.Deep.OwnRows
namespace Go.Proofs.Ytgnccfcdonoegaa
open Go.RowKit

set_option maxRecDepth 100000 in
theorem withdraw11_any (x : Wg) (r : Rg) (W : World) (hr : RingR W x r) : Calls Try.prog 26 #[.agg (ringC x r)] W fun e W' => AnsR1 W' e (withdrawR r) ∧ Below W.heap.size W W' := by
  obtain ⟨V, C, hC, hV, hb, hg, hj⟩ := bxRZ W x r
  have x0 := hg.cell (ringC_cn x r)
  have x1 := hg.cell (ringC_ck x r)
  have y0 := hg.cell (ringC_on x r)
  have y1 := hg.cell (ringC_ok x r)
  have z0 := hg.cell (ringC_left x r)
  have z1 := hg.cell (ringC_top x r)
  have HB := Lib.hid hb
  have HV := Lib.hid hV
  have HJ := Lib.hid hj
  have HR := Lib.hid hr
  rw [← hC]
  clear hC hV hb hg hr hj
  go_enter Try.func26, Try.ntmps26
  go_upto_region 1 with (fail)
  rw [← HV.out]
  go_wp2_with (refine storeX (.tmp 2) (.tmp 11) (W.heap.size + 1) (ringC ⟨x.cur, x.old, wk0⟩ (withdrawR r)) _ tyRing rfl (ringC_one _ _) HJ.out rfl rfl rfl rfl rfl ?_)
  (try simp only [Exit.inBlock, Exit.then])
  refine bodyPost_ret (retX1 rfl _ _ (W.heap.size + 1) (ringC ⟨x.cur, x.old, wk0⟩ (withdrawR r)) tyRing rfl rfl (HJ.out.setRow _)) rfl ?_
  exact ringEnd1 HB.out (by omega) ⟨HR.out.1, HR.out.2.1, keyR0 W⟩
set_option maxRecDepth 100000 in
theorem turn11_any (x : Wg) (r : Rg) (W : World) (hr : RingR W x r) : Calls Try.prog 24 #[.agg (ringC x r)] W fun e W' => AnsRg W' e (turnR r).1 (turnR r).2 ∧ Below W.heap.size W W' := by
  obtain ⟨V, C, hC, hV, hb, hg, hj⟩ := bxRZ W x r
  have x0 := hg.cell (ringC_cn x r)
  have x1 := hg.cell (ringC_ck x r)
  have y0 := hg.cell (ringC_pn x r)
  have y1 := hg.cell (ringC_pk x r)
  have z1 := hg.cell (ringC_top x r)
  have HB := Lib.hid hb
  have HV := Lib.hid hV
  have HG := Lib.hid hg
  have HJ := Lib.hid hj
  have HR := Lib.hid hr
  rw [← hC]
  unfold turnR
  by_cases h0 : r.pend.no = 0
  · rw [if_pos h0]
    rw [h0] at y0
    clear hC hV hb hg hr hj x0 x1 y1 z1
    go_enter Try.func24, Try.ntmps24
    go_upto_region 1 with (fail)
    rw [← HV.out]
    go_wp2_with (first | (refine loadX (.tmp 1) W.heap.size _ tyRing rfl HG.out rfl rfl rfl ?_) | (refine storeX (.tmp 2) (.tmp 8) (W.heap.size + 1) (ringC x r) _ tyRing rfl (ringC_one _ _) HJ.out rfl rfl rfl rfl rfl ?_))
    (try simp only [Exit.inBlock, Exit.then])
    refine bodyPost_ret (retX2 rfl _ _ (W.heap.size + 1) (ringC x r) _ tyRing rfl rfl rfl (HJ.out.setRow _)) rfl ?_
    exact ringEnd HB.out (by omega) HR.out
  · rw [if_neg h0]
    have b0 : (r.pend.no == 0) = false := beq_eq_false_iff_ne.2 h0
    clear hC hV hb hg hr hj h0
    go_enter Try.func24, Try.ntmps24
    go_upto_region 1 with (fail)
    rw [← HV.out]
    go_wp2_with (refine storeX (.tmp 2) (.tmp 15) (W.heap.size + 1) (ringC ⟨x.pend, x.cur, wk0⟩ ⟨r.pend, r.cur, gn0, 16, r.top⟩) _ tyRing rfl (ringC_one _ _) HJ.out rfl rfl rfl rfl rfl ?_)
    (try simp only [Exit.inBlock, Exit.then])
    refine bodyPost_ret (retX2 rfl _ _ (W.heap.size + 1) (ringC ⟨x.pend, x.cur, wk0⟩ ⟨r.pend, r.cur, gn0, 16, r.top⟩) _ tyRing rfl rfl rfl (HJ.out.setRow _)) rfl ?_
    exact ringEnd HB.out (by omega) ⟨HR.out.2.2, HR.out.1, keyR0 W⟩
set_option maxRecDepth 100000 in
theorem tick11_any (x : Wg) (r : Rg) (W : World) (hr : RingR W x r) (hl : B64r r.left) : Calls Try.prog 28 #[.agg (ringC x r)] W fun e W' => AnsR1 W' e (tickR r) ∧ Below W.heap.size W W' := by
  obtain ⟨V, C, hC, hV, hb, hg, hj⟩ := bxRZ W x r
  have HB := Lib.hid hb
  have HV := Lib.hid hV
  have HG := Lib.hid hg
  have HJ := Lib.hid hj
  have HR := Lib.hid hr
  have x0 := hg.cell (ringC_cn x r)
  have x1 := hg.cell (ringC_ck x r)
  have y0 := hg.cell (ringC_pn x r)
  have y1 := hg.cell (ringC_pk x r)
  have z0 := hg.cell (ringC_left x r)
  have z1 := hg.cell (ringC_top x r)
  rw [← hC]
  unfold tickR
  obtain ⟨l1, l2⟩ := hl
  by_cases h0 : 1 < r.left
  · rw [if_pos h0]
    obtain ⟨t, ht⟩ : ∃ t, t = r.left := ⟨_, rfl⟩
    have HT := Lib.hid ht
    rw [← ht] at h0 l1 l2 z0
    have hw : IntKind.i64.wrap (t - 1) = t - 1 := IntWalk.i64_in _ (by omega)
    have hw2 : wrap64 (t - 1) = t - 1 := by unfold wrap64; omega
    have f0 := hg.thaw 6
    clear hC hV hb hg hr hj x0 x1 y0 y1 z1 ht
    go_enter Try.func28, Try.ntmps28
    go_upto_region 1 with (fail)
    rw [← HV.out]
    go_upto_region 3 with (fail)
    obtain ⟨Y, hY⟩ : ∃ Y, Y = V.setCell ⟨W.heap.size, 6, none⟩ (.int .i64 (t - 1)) := ⟨_, rfl⟩
    have hG1 : BxR Y W.heap.size x { r with left := r.left - 1 } := by rw [hY]; exact HG.out.set (by rw [HT.out]; rfl)
    have hJ1 : BxR Y (W.heap.size + 1) wg0 rg0 := by rw [hY]; exact HJ.out.setOther (by omega) _ _
    have hB1 : Below W.heap.size W Y := by rw [hY]; exact HB.out.setCell (p := ⟨W.heap.size, 6, none⟩) (Nat.le_refl _) _
    rw [← hY]
    have HG1 := Lib.hid hG1
    have HJ1 := Lib.hid hJ1
    have HB1 := Lib.hid hB1
    clear hY hG1 hJ1 hB1 z0 f0
    go_wp2_with (first | (refine loadX (.tmp 1) W.heap.size _ tyRing rfl HG1.out rfl rfl rfl ?_) | (refine storeX (.tmp 2) (.tmp 10) (W.heap.size + 1) (ringC x { r with left := r.left - 1 }) _ tyRing rfl (ringC_one _ _) HJ1.out rfl rfl rfl rfl rfl ?_))
    (try simp only [Exit.inBlock, Exit.then])
    refine bodyPost_ret (retX1 rfl _ _ (W.heap.size + 1) (ringC x { r with left := r.left - 1 }) tyRing rfl rfl (HJ1.out.setRow _)) rfl ?_
    exact ringEnd1 HB1.out (by omega) HR.out
  · rw [if_neg h0]
    clear hC hV hb hg hr hj
    go_enter Try.func28, Try.ntmps28
    go_upto_region 1 with (fail)
    rw [← HV.out]
    go_wp2_with (refine storeX (.tmp 2) (.tmp 17) (W.heap.size + 1) (ringC ⟨x.cur, wk0, x.pend⟩ ⟨r.cur, gn0, r.pend, 0, r.top⟩) _ tyRing rfl (ringC_one _ _) HJ.out rfl rfl rfl rfl rfl ?_)
    (try simp only [Exit.inBlock, Exit.then])
    refine bodyPost_ret (retX1 rfl _ _ (W.heap.size + 1) (ringC ⟨x.cur, wk0, x.pend⟩ ⟨r.cur, gn0, r.pend, 0, r.top⟩) tyRing rfl rfl (HJ.out.setRow _)) rfl ?_
    exact ringEnd1 HB.out (by omega) ⟨HR.out.1, keyR0 W, HR.out.2.2⟩
end Go.Proofs.Ytgnccfcdonoegaa
/- The document's answers (ring): Offer. -/

namespace Go.Proofs.Ytgnccfcdonoegaa
open Go.RowKit

set_option maxRecDepth 100000 in
set_option maxHeartbeats 2000000 in
theorem offer11_any (x : Wg) (r : Rg) (no : Int) (A : Option Addr) (k : List UInt8) (c : Nat) (W : World) (hr : RingR W x r) (hk : KeyR W (A, c) k) : Calls Try.prog 22 #[.agg (ringC x r), .int .i64 no, .slice A k.length c] W fun e W' => AnsRg W' e (offerR r no k).1 (offerR r no k).2 ∧ Below W.heap.size W W' := by
  obtain ⟨V, C, hC, hV, hb, hg, hj⟩ := bxRZ W x r
  have HB := Lib.hid hb
  have HV := Lib.hid hV
  have HG := Lib.hid hg
  have HJ := Lib.hid hj
  have HR := Lib.hid hr
  have HK := Lib.hid hk
  have CE := Lib.hid (empty11_any x r V)
  rw [← hC]
  clear hC hV hb hg hj hr hk
  obtain ⟨n, hn⟩ : ∃ n, n = k.length := ⟨_, rfl⟩
  have HN := Lib.hid hn
  unfold offerR
  rw [← hn]
  clear hn
  by_cases h1 : n ≠ 32 ∨ no < 1 ∨ 2147483647 < no
  · rw [if_pos h1]
    by_cases h32 : n = 32
    · subst h32
      by_cases h2 : no < 1
      · clear h1
        go_enter Try.func22, Try.ntmps22
        go_upto_region 1 with (fail)
        rw [← HV.out]
        go_wp2_with (first | (refine loadX (.tmp 3) W.heap.size _ tyRing rfl HG.out rfl rfl rfl ?_) | (refine storeX (.tmp 6) (.tmp 20) (W.heap.size + 1) (ringC x r) _ tyRing rfl (ringC_one _ _) HJ.out rfl rfl rfl rfl rfl ?_))
        (try simp only [Exit.inBlock, Exit.then])
        refine bodyPost_ret (retX2 rfl _ _ (W.heap.size + 1) (ringC x r) _ tyRing rfl rfl rfl (HJ.out.setRow _)) rfl ?_
        exact ringEnd HB.out (by omega) HR.out
      · have h3 : 2147483647 < no := by omega
        clear h1
        go_enter Try.func22, Try.ntmps22
        go_upto_region 1 with (fail)
        rw [← HV.out]
        go_wp2_with (first | (refine loadX (.tmp 3) W.heap.size _ tyRing rfl HG.out rfl rfl rfl ?_) | (refine storeX (.tmp 6) (.tmp 20) (W.heap.size + 1) (ringC x r) _ tyRing rfl (ringC_one _ _) HJ.out rfl rfl rfl rfl rfl ?_))
        (try simp only [Exit.inBlock, Exit.then])
        refine bodyPost_ret (retX2 rfl _ _ (W.heap.size + 1) (ringC x r) _ tyRing rfl rfl rfl (HJ.out.setRow _)) rfl ?_
        exact ringEnd HB.out (by omega) HR.out
    · have b1 : ((n : Int) == 32) = false := beq_eq_false_iff_ne.2 (by omega)
      clear h1
      go_enter Try.func22, Try.ntmps22
      go_upto_region 1 with (fail)
      rw [← HV.out]
      go_wp2_with (first | (refine loadX (.tmp 3) W.heap.size _ tyRing rfl HG.out rfl rfl rfl ?_) | (refine storeX (.tmp 6) (.tmp 20) (W.heap.size + 1) (ringC x r) _ tyRing rfl (ringC_one _ _) HJ.out rfl rfl rfl rfl rfl ?_))
      (try simp only [Exit.inBlock, Exit.then])
      refine bodyPost_ret (retX2 rfl _ _ (W.heap.size + 1) (ringC x r) _ tyRing rfl rfl rfl (HJ.out.setRow _)) rfl ?_
      exact ringEnd HB.out (by omega) HR.out
  rw [if_neg h1]
  simp only [not_or, Int.not_lt, Decidable.not_not] at h1
  obtain ⟨rfl, n1, n2⟩ := h1
  by_cases h0 : r = rg0
  · rw [if_pos (.inl h0)]
    rw [decide_eq_true h0] at CE
    clear h0
    go_enter Try.func22, Try.ntmps22
    go_upto_region 1 with (fail)
    rw [← HV.out]
    go_wp2_with (refine loadX (.tmp 3) W.heap.size _ tyRing rfl HG.out rfl rfl rfl ?_)
    refine CE.out.mono ?_
    rintro e w1 ⟨rfl, hb⟩
    have HB1 := Lib.hid (belG HB.out hb HB.out.size)
    have HG1 := Lib.hid (HG.out.old hb (Nat.le_refl _))
    have HJ1 := Lib.hid (HJ.out.old hb (Nat.le_refl _))
    clear hb HB HG HJ CE
    have HB := HB1
    have HG := HG1
    have HJ := HJ1
    clear HB1 HG1 HJ1
    go_wp2_with (first | (refine loadX (.tmp 3) W.heap.size _ tyRing rfl HG.out rfl rfl rfl ?_) | (refine storeX (.tmp 6) (.tmp 38) (W.heap.size + 1) (ringC x r) _ tyRing rfl (ringC_one _ _) HJ.out rfl rfl rfl rfl rfl ?_))
    (try simp only [Exit.inBlock, Exit.then])
    refine bodyPost_ret (retX2 rfl _ _ (W.heap.size + 1) (ringC x r) _ tyRing rfl rfl rfl (HJ.out.setRow _)) rfl ?_
    exact ringEnd HB.out (by omega) HR.out
  rw [decide_eq_false h0] at CE
  obtain ⟨cn, hcn⟩ : ∃ a, a = r.cur.no := ⟨_, rfl⟩
  obtain ⟨pn, hpn⟩ : ∃ a, a = r.pend.no := ⟨_, rfl⟩
  obtain ⟨tp, htp⟩ : ∃ a, a = r.top := ⟨_, rfl⟩
  have HC := Lib.hid (fun w (h : BxR w W.heap.size x r) => (show w.cell? ⟨W.heap.size, 0, none⟩ = some (.int .i64 cn) ∧ w.cell? ⟨W.heap.size, 4, none⟩ = some (.int .i64 pn) ∧ w.cell? ⟨W.heap.size, 7, none⟩ = some (.int .i64 tp) from by rw [hcn, hpn, htp]; exact ⟨h.cell (ringC_cn x r), h.cell (ringC_pn x r), h.cell (ringC_top x r)⟩))
  have HT := Lib.hid htp
  rw [← hcn, ← hpn]
  by_cases h2 : no ≤ cn
  · rw [if_pos (.inr (.inl h2))]
    clear h0 hcn hpn htp
    go_enter Try.func22, Try.ntmps22
    go_upto_region 1 with (fail)
    rw [← HV.out]
    go_wp2_with (refine loadX (.tmp 3) W.heap.size _ tyRing rfl HG.out rfl rfl rfl ?_)
    refine CE.out.mono ?_
    rintro e w1 ⟨rfl, hb⟩
    have HB1 := Lib.hid (belG HB.out hb HB.out.size)
    have HG1 := Lib.hid (HG.out.old hb (Nat.le_refl _))
    have HJ1 := Lib.hid (HJ.out.old hb (Nat.le_refl _))
    clear hb HB HG HJ CE
    have HB := HB1
    have HG := HG1
    have HJ := HJ1
    clear HB1 HG1 HJ1
    obtain ⟨x0, x1, x2⟩ := HC.out _ HG.out
    go_wp2_with (first | (refine loadX (.tmp 3) W.heap.size _ tyRing rfl HG.out rfl rfl rfl ?_) | (refine storeX (.tmp 6) (.tmp 38) (W.heap.size + 1) (ringC x r) _ tyRing rfl (ringC_one _ _) HJ.out rfl rfl rfl rfl rfl ?_))
    (try simp only [Exit.inBlock, Exit.then])
    refine bodyPost_ret (retX2 rfl _ _ (W.heap.size + 1) (ringC x r) _ tyRing rfl rfl rfl (HJ.out.setRow _)) rfl ?_
    exact ringEnd HB.out (by omega) HR.out
  by_cases h3 : no < pn
  · rw [if_pos (.inr (.inr h3))]
    clear h0 hcn hpn htp
    go_enter Try.func22, Try.ntmps22
    go_upto_region 1 with (fail)
    rw [← HV.out]
    go_wp2_with (refine loadX (.tmp 3) W.heap.size _ tyRing rfl HG.out rfl rfl rfl ?_)
    refine CE.out.mono ?_
    rintro e w1 ⟨rfl, hb⟩
    have HB1 := Lib.hid (belG HB.out hb HB.out.size)
    have HG1 := Lib.hid (HG.out.old hb (Nat.le_refl _))
    have HJ1 := Lib.hid (HJ.out.old hb (Nat.le_refl _))
    clear hb HB HG HJ CE
    have HB := HB1
    have HG := HG1
    have HJ := HJ1
    clear HB1 HG1 HJ1
    obtain ⟨x0, x1, x2⟩ := HC.out _ HG.out
    go_wp2_with (first | (refine loadX (.tmp 3) W.heap.size _ tyRing rfl HG.out rfl rfl rfl ?_) | (refine storeX (.tmp 6) (.tmp 38) (W.heap.size + 1) (ringC x r) _ tyRing rfl (ringC_one _ _) HJ.out rfl rfl rfl rfl rfl ?_))
    (try simp only [Exit.inBlock, Exit.then])
    refine bodyPost_ret (retX2 rfl _ _ (W.heap.size + 1) (ringC x r) _ tyRing rfl rfl rfl (HJ.out.setRow _)) rfl ?_
    exact ringEnd HB.out (by omega) HR.out
  rw [if_neg (by simp only [not_or]; exact ⟨h0, h2, h3⟩)]
  clear h0 hcn hpn htp
  go_enter Try.func22, Try.ntmps22
  go_upto_region 1 with (fail)
  rw [← HV.out]
  go_wp2_with (refine loadX (.tmp 3) W.heap.size _ tyRing rfl HG.out rfl rfl rfl ?_)
  refine CE.out.mono ?_
  rintro e w1 ⟨rfl, hb⟩
  have HB1 := Lib.hid (belG HB.out hb HB.out.size)
  have HG1 := Lib.hid (HG.out.old hb (Nat.le_refl _))
  have HJ1 := Lib.hid (HJ.out.old hb (Nat.le_refl _))
  clear hb HB HG HJ CE
  have HB := HB1
  have HG := HG1
  have HJ := HJ1
  clear HB1 HG1 HJ1
  obtain ⟨x0, x1, x2⟩ := HC.out _ HG.out
  have y1 := HG.out.cell (ringC_pk x r)
  have f0 := HG.out.thaw 4
  have f1 := HG.out.thaw 5
  go_upto_region 7 with (fail)
  obtain ⟨Y, hY⟩ : ∃ Y, Y = (w1.setCell ⟨W.heap.size, 4, none⟩ (.int .i64 no)).setCell ⟨W.heap.size, 5, none⟩ (.slice A 32 c) := ⟨_, rfl⟩
  have hG1 : BxR Y W.heap.size ⟨x.cur, x.old, (A, c)⟩ { r with pend := ⟨no, k⟩ } := by
    rw [hY]
    exact (HG.out.set (j := 4) rfl).set (j := 5) (by rw [HN.out]; rfl)
  have hJ1 : BxR Y (W.heap.size + 1) wg0 rg0 := by rw [hY]; exact (HJ.out.setOther (by omega) _ _).setOther (by omega) _ _
  have hB1 : Below W.heap.size W Y := by rw [hY]; exact (HB.out.setCell (p := ⟨W.heap.size, 4, none⟩) (Nat.le_refl _) _).setCell (p := ⟨W.heap.size, 5, none⟩) (Nat.le_refl _) _
  rw [← hY]
  have HG1 := Lib.hid hG1
  have HJ1 := Lib.hid hJ1
  have HB1 := Lib.hid hB1
  have x2 : Y.cell? ⟨W.heap.size, 7, none⟩ = some (.int .i64 tp) := by rw [HT.out]; exact hG1.cell (ringC_top _ _)
  have f2 := hG1.thaw 7
  clear hY hG1 hJ1 hB1 x0 x1 y1 f0 f1 HG HJ HB HC
  by_cases h4 : tp < no
  · have hm : max r.top no = no := by have := HT.out; omega
    go_upto_region 9 with (fail)
    obtain ⟨Z, hZ⟩ : ∃ Z, Z = Y.setCell ⟨W.heap.size, 7, none⟩ (.int .i64 no) := ⟨_, rfl⟩
    have hG2 : BxR Z W.heap.size ⟨x.cur, x.old, (A, c)⟩ { r with pend := ⟨no, k⟩, top := max r.top no } := by
      rw [hZ, hm]
      exact HG1.out.set (j := 7) rfl
    have hJ2 : BxR Z (W.heap.size + 1) wg0 rg0 := by rw [hZ]; exact HJ1.out.setOther (by omega) _ _
    have hB2 : Below W.heap.size W Z := by rw [hZ]; exact HB1.out.setCell (p := ⟨W.heap.size, 7, none⟩) (Nat.le_refl _) _
    rw [← hZ]
    have HG2 := Lib.hid hG2
    have HJ2 := Lib.hid hJ2
    have HB2 := Lib.hid hB2
    clear hZ hG2 hJ2 hB2 x2 f2 hm
    go_wp2_with (first | (refine loadX (.tmp 3) W.heap.size _ tyRing rfl HG2.out rfl rfl rfl ?_) | (refine storeX (.tmp 6) (.tmp 49) (W.heap.size + 1) (ringC ⟨x.cur, x.old, (A, c)⟩ { r with pend := ⟨no, k⟩, top := max r.top no }) _ tyRing rfl (ringC_one _ _) HJ2.out rfl rfl rfl rfl rfl ?_))
    (try simp only [Exit.inBlock, Exit.then])
    refine bodyPost_ret (retX2 rfl _ _ (W.heap.size + 1) (ringC ⟨x.cur, x.old, (A, c)⟩ { r with pend := ⟨no, k⟩, top := max r.top no }) _ tyRing rfl rfl rfl (HJ2.out.setRow _)) rfl ?_
    exact ringEnd HB2.out (by omega) ⟨HR.out.1, HR.out.2.1, HK.out⟩
  · have hm : max r.top no = r.top := by have := HT.out; omega
    have HG2 := Lib.hid (show BxR Y W.heap.size ⟨x.cur, x.old, (A, c)⟩ { r with pend := ⟨no, k⟩, top := max r.top no } from by rw [hm]; exact HG1.out)
    have HJ2 := HJ1
    have HB2 := HB1
    clear hm
    go_wp2_with (first | (refine loadX (.tmp 3) W.heap.size _ tyRing rfl HG2.out rfl rfl rfl ?_) | (refine storeX (.tmp 6) (.tmp 49) (W.heap.size + 1) (ringC ⟨x.cur, x.old, (A, c)⟩ { r with pend := ⟨no, k⟩, top := max r.top no }) _ tyRing rfl (ringC_one _ _) HJ2.out rfl rfl rfl rfl rfl ?_))
    (try simp only [Exit.inBlock, Exit.then])
    refine bodyPost_ret (retX2 rfl _ _ (W.heap.size + 1) (ringC ⟨x.cur, x.old, (A, c)⟩ { r with pend := ⟨no, k⟩, top := max r.top no }) _ tyRing rfl rfl rfl (HJ2.out.setRow _)) rfl ?_
    exact ringEnd HB2.out (by omega) ⟨HR.out.1, HR.out.2.1, HK.out⟩
end Go.Proofs.Ytgnccfcdonoegaa
/- The document's answers (ring): Right. -/

namespace Go.Proofs.Ytgnccfcdonoegaa
open Go.RowKit

set_option maxRecDepth 100000 in
set_option maxHeartbeats 4000000 in
theorem right11_any (x : Wg) (r : Rg) (W : World) : Calls Try.prog 12 #[.agg (ringC x r)] W fun e W' => e = .returned (.bool (decide (RightR r))) ∧ Below W.heap.size W W' := by
  obtain ⟨V, C, hC, hV, hb, hg⟩ := bxR1 W x r
  have HB := Lib.hid hb
  have HV := Lib.hid hV
  have HG := Lib.hid hg
  have CE := Lib.hid (empty11_any x r V)
  have C1 := Lib.hid (fun w => real11_any x.cur r.cur w)
  have C2 := Lib.hid (fun w => none11_any x.old r.old w)
  have C3 := Lib.hid (fun w => real11_any x.old r.old w)
  have C4 := Lib.hid (fun w => none11_any x.pend r.pend w)
  have C5 := Lib.hid (fun w => real11_any x.pend r.pend w)
  rw [← hC]
  obtain ⟨D, hD⟩ : ∃ D, D = decide (RightR r) := ⟨_, rfl⟩
  rw [← hD]
  obtain ⟨cn, hcn⟩ : ∃ a, a = r.cur.no := ⟨_, rfl⟩
  obtain ⟨on, hon⟩ : ∃ a, a = r.old.no := ⟨_, rfl⟩
  obtain ⟨pn, hpn⟩ : ∃ a, a = r.pend.no := ⟨_, rfl⟩
  obtain ⟨lf, hlf⟩ : ∃ a, a = r.left := ⟨_, rfl⟩
  obtain ⟨tp, htp⟩ : ∃ a, a = r.top := ⟨_, rfl⟩
  have HC := Lib.hid (fun w (h : BxR w W.heap.size x r) => (show w.cell? ⟨W.heap.size, 0, none⟩ = some (.int .i64 cn) ∧ w.cell? ⟨W.heap.size, 2, none⟩ = some (.int .i64 on) ∧ w.cell? ⟨W.heap.size, 4, none⟩ = some (.int .i64 pn) ∧ w.cell? ⟨W.heap.size, 6, none⟩ = some (.int .i64 lf) ∧ w.cell? ⟨W.heap.size, 7, none⟩ = some (.int .i64 tp) from by
    rw [hcn, hon, hpn, hlf, htp]; exact ⟨h.cell (ringC_cn x r), h.cell (ringC_on x r), h.cell (ringC_pn x r), h.cell (ringC_left x r), h.cell (ringC_top x r)⟩))
  have HX := Lib.hid (show decide (r.old = gn0) = true → decide (RealG r.old) = false from fun h => decide_eq_false (fun h2 => h2.ne (of_decide_eq_true h)))
  have HD := Lib.hid (show D = true ↔ (decide (r = rg0) = true ∨ (decide (RealG r.cur) = true ∧ tp ≤ 2147483647 ∧ cn ≤ tp ∧ pn ≤ tp ∧ ((decide (r.old = gn0) = true ∧ lf = 0) ∨ (decide (RealG r.old) = true ∧ on < cn ∧ 1 ≤ lf ∧ lf ≤ 16)) ∧ (decide (r.pend = gn0) = true ∨ (decide (RealG r.pend) = true ∧ cn < pn)))) from by
    rw [hD, hcn, hon, hpn, hlf, htp]
    simp only [decide_eq_true_eq]
    exact Iff.rfl)
  generalize decide (r = rg0) = p0 at *
  generalize decide (RealG r.cur) = p1 at *
  generalize decide (r.old = gn0) = p2 at *
  generalize decide (RealG r.old) = p3 at *
  generalize decide (r.pend = gn0) = p4 at *
  generalize decide (RealG r.pend) = p5 at *
  clear hC hV hb hg hD hcn hon hpn hlf htp
  have HF := Lib.hid (show (D = true → False) → D = false from fun h => by
    cases D with
    | false => rfl
    | true => exact (h rfl).elim)
  go_enter Try.func12, Try.ntmps12
  go_upto_region 1 with (fail)
  rw [← HV.out]
  clear HV
  go_wp2_with (refine loadX (.tmp 1) W.heap.size _ tyRing rfl HG.out rfl rfl rfl ?_)
  refine CE.out.mono ?_
  rintro e w1 ⟨rfl, hb⟩
  have HB1 := Lib.hid (belG HB.out hb HB.out.size)
  have HG1 := Lib.hid (HG.out.old hb (Nat.le_refl _))
  clear hb HB HG
  have HB := HB1
  have HG := HG1
  clear HB1 HG1
  clear CE
  cases p0 with
  | true =>
    obtain rfl : D = true := HD.out.2 (.inl rfl)
    clear HD HF HX
    go_wp2
    go_ret
    exact ⟨rfl, HB.out⟩
  | false =>
  have x0 := HG.out.cell (ringC_cn x r)
  have x1 := HG.out.cell (ringC_ck x r)
  go_wp2_with fail
  refine (C1.out _).mono ?_
  rintro e w2 ⟨rfl, hb⟩
  have HB1 := Lib.hid (belG HB.out hb HB.out.size)
  have HG1 := Lib.hid (HG.out.old hb (Nat.le_refl _))
  clear hb HB HG
  have HB := HB1
  have HG := HG1
  clear HB1 HG1
  clear C1 x0 x1
  cases p1 with
  | false =>
    obtain rfl : D = false := HF.out (fun hd => by
      rcases HD.out.1 hd with h | ⟨q1, q2, q3, q4, q5, q6⟩
      · exact Bool.noConfusion h
      · exact Bool.noConfusion q1)
    clear HD HF HX
    go_wp2
    go_ret
    exact ⟨by first | rfl | (simp; done) | (simp; omega), HB.out⟩
  | true =>
  obtain ⟨c0, c1, c2, c3, c4⟩ := HC.out _ HG.out
  by_cases h1 : tp ≤ 2147483647
  case neg =>
    obtain rfl : D = false := HF.out (fun hd => by
      rcases HD.out.1 hd with h | ⟨q1, q2, q3, q4, q5, q6⟩
      · exact Bool.noConfusion h
      · exact h1 q2)
    clear HD HF HX
    go_wp2
    go_ret
    exact ⟨by first | rfl | (simp; done) | (simp; omega), HB.out⟩
  by_cases h2 : cn ≤ tp
  case neg =>
    obtain rfl : D = false := HF.out (fun hd => by
      rcases HD.out.1 hd with h | ⟨q1, q2, q3, q4, q5, q6⟩
      · exact Bool.noConfusion h
      · exact h2 q3)
    clear HD HF HX
    go_wp2
    go_ret
    exact ⟨by first | rfl | (simp; done) | (simp; omega), HB.out⟩
  by_cases h3 : pn ≤ tp
  case neg =>
    obtain rfl : D = false := HF.out (fun hd => by
      rcases HD.out.1 hd with h | ⟨q1, q2, q3, q4, q5, q6⟩
      · exact Bool.noConfusion h
      · exact h3 q4)
    clear HD HF HX
    go_wp2
    go_ret
    exact ⟨by first | rfl | (simp; done) | (simp; omega), HB.out⟩
  go_upto_region 7 with (fail)
  clear c0 c1 c2 c3 c4
  have x0 := HG.out.cell (ringC_on x r)
  have x1 := HG.out.cell (ringC_ok x r)
  go_wp2_with fail
  refine (C2.out _).mono ?_
  rintro e w3 ⟨rfl, hb⟩
  have HB1 := Lib.hid (belG HB.out hb HB.out.size)
  have HG1 := Lib.hid (HG.out.old hb (Nat.le_refl _))
  clear hb HB HG
  have HB := HB1
  have HG := HG1
  clear HB1 HG1
  clear C2 x0 x1
  have x0 := HG.out.cell (ringC_on x r)
  have x1 := HG.out.cell (ringC_ok x r)
  go_wp2_with fail
  refine (C3.out _).mono ?_
  rintro e w4 ⟨rfl, hb⟩
  have HB1 := Lib.hid (belG HB.out hb HB.out.size)
  have HG1 := Lib.hid (HG.out.old hb (Nat.le_refl _))
  clear hb HB HG
  have HB := HB1
  have HG := HG1
  clear HB1 HG1
  clear C3 x0 x1
  have x0 := HG.out.cell (ringC_pn x r)
  have x1 := HG.out.cell (ringC_pk x r)
  go_wp2_with fail
  refine (C4.out _).mono ?_
  rintro e w5 ⟨rfl, hb⟩
  have HB1 := Lib.hid (belG HB.out hb HB.out.size)
  have HG1 := Lib.hid (HG.out.old hb (Nat.le_refl _))
  clear hb HB HG
  have HB := HB1
  have HG := HG1
  clear HB1 HG1
  clear C4 x0 x1
  have x0 := HG.out.cell (ringC_pn x r)
  have x1 := HG.out.cell (ringC_pk x r)
  go_wp2_with fail
  refine (C5.out _).mono ?_
  rintro e w6 ⟨rfl, hb⟩
  have HB1 := Lib.hid (belG HB.out hb HB.out.size)
  have HG1 := Lib.hid (HG.out.old hb (Nat.le_refl _))
  clear hb HB HG
  have HB := HB1
  have HG := HG1
  clear HB1 HG1
  clear C5 x0 x1
  obtain ⟨c0, c1, c2, c3, c4⟩ := HC.out _ HG.out
  clear HC
  cases p2 with
  | true =>
    obtain rfl : p3 = false := HX.out rfl
    by_cases h4 : lf = 0
    case neg =>
      have b4 : (lf == 0) = false := beq_eq_false_iff_ne.2 h4
      obtain rfl : D = false := HF.out (fun hd => by
        rcases HD.out.1 hd with h | ⟨q1, q2, q3, q4, q5, q6⟩
        · exact Bool.noConfusion h
        · rcases q5 with q5 | q5; exact h4 q5.2; exact Bool.noConfusion q5.1)
      clear HD HF HX
      go_wp2
      go_ret
      exact ⟨by first | rfl | (simp; done) | (simp; omega), HB.out⟩
    subst h4
    cases p4 with
    | true =>
      obtain rfl : D = true := HD.out.2 (.inr ⟨(by first | rfl | trivial), h1, h2, h3, .inl ⟨rfl, rfl⟩, .inl rfl⟩)
      clear HD HF HX
      go_wp2
      go_ret
      exact ⟨by first | rfl | (simp; done) | (simp; omega), HB.out⟩
    | false =>
      cases p5 with
      | false =>
        obtain rfl : D = false := HF.out (fun hd => by
          rcases HD.out.1 hd with h | ⟨q1, q2, q3, q4, q5, q6⟩
          · exact Bool.noConfusion h
          · rcases q6 with q6 | q6; exact Bool.noConfusion q6; exact Bool.noConfusion q6.1)
        clear HD HF HX
        go_wp2
        go_ret
        exact ⟨by first | rfl | (simp; done) | (simp; omega), HB.out⟩
      | true =>
        by_cases h9 : cn < pn
        case neg =>
          obtain rfl : D = false := HF.out (fun hd => by
            rcases HD.out.1 hd with h | ⟨q1, q2, q3, q4, q5, q6⟩
            · exact Bool.noConfusion h
            · rcases q6 with q6 | q6; exact Bool.noConfusion q6; exact h9 q6.2)
          clear HD HF HX
          go_wp2
          go_ret
          exact ⟨by first | rfl | (simp; done) | (simp; omega), HB.out⟩
        obtain rfl : D = true := HD.out.2 (.inr ⟨(by first | rfl | trivial), h1, h2, h3, .inl ⟨rfl, rfl⟩, .inr ⟨rfl, h9⟩⟩)
        clear HD HF HX
        go_wp2
        go_ret
        exact ⟨by first | rfl | (simp [h9]; done) | (simp; omega), HB.out⟩
  | false =>
    cases p3 with
    | false =>
      obtain rfl : D = false := HF.out (fun hd => by
        rcases HD.out.1 hd with h | ⟨q1, q2, q3, q4, q5, q6⟩
        · exact Bool.noConfusion h
        · rcases q5 with q5 | q5; exact Bool.noConfusion q5.1; exact Bool.noConfusion q5.1)
      clear HD HF HX
      go_wp2
      go_ret
      exact ⟨by first | rfl | (simp; done) | (simp; omega), HB.out⟩
    | true =>
      by_cases h4 : on < cn
      case neg =>
        obtain rfl : D = false := HF.out (fun hd => by
          rcases HD.out.1 hd with h | ⟨q1, q2, q3, q4, q5, q6⟩
          · exact Bool.noConfusion h
          · rcases q5 with q5 | q5; exact Bool.noConfusion q5.1; exact h4 q5.2.1)
        clear HD HF HX
        go_wp2
        go_ret
        exact ⟨by first | rfl | (simp; done) | (simp; omega), HB.out⟩
      by_cases h5 : 1 ≤ lf
      case neg =>
        obtain rfl : D = false := HF.out (fun hd => by
          rcases HD.out.1 hd with h | ⟨q1, q2, q3, q4, q5, q6⟩
          · exact Bool.noConfusion h
          · rcases q5 with q5 | q5; exact Bool.noConfusion q5.1; exact h5 q5.2.2.1)
        clear HD HF HX
        go_wp2
        go_ret
        exact ⟨by first | rfl | (simp; done) | (simp; omega), HB.out⟩
      by_cases h6 : lf ≤ 16
      case neg =>
        obtain rfl : D = false := HF.out (fun hd => by
          rcases HD.out.1 hd with h | ⟨q1, q2, q3, q4, q5, q6⟩
          · exact Bool.noConfusion h
          · rcases q5 with q5 | q5; exact Bool.noConfusion q5.1; exact h6 q5.2.2.2)
        clear HD HF HX
        go_wp2
        go_ret
        exact ⟨by first | rfl | (simp; done) | (simp; omega), HB.out⟩
      cases p4 with
      | true =>
        obtain rfl : D = true := HD.out.2 (.inr ⟨(by first | rfl | trivial), h1, h2, h3, .inr ⟨rfl, h4, h5, h6⟩, .inl rfl⟩)
        clear HD HF HX
        go_wp2
        go_ret
        exact ⟨by first | rfl | (simp; done) | (simp; omega), HB.out⟩
      | false =>
        cases p5 with
        | false =>
          obtain rfl : D = false := HF.out (fun hd => by
            rcases HD.out.1 hd with h | ⟨q1, q2, q3, q4, q5, q6⟩
            · exact Bool.noConfusion h
            · rcases q6 with q6 | q6; exact Bool.noConfusion q6; exact Bool.noConfusion q6.1)
          clear HD HF HX
          go_wp2
          go_ret
          exact ⟨by first | rfl | (simp; done) | (simp; omega), HB.out⟩
        | true =>
          by_cases h9 : cn < pn
          case neg =>
            obtain rfl : D = false := HF.out (fun hd => by
              rcases HD.out.1 hd with h | ⟨q1, q2, q3, q4, q5, q6⟩
              · exact Bool.noConfusion h
              · rcases q6 with q6 | q6; exact Bool.noConfusion q6; exact h9 q6.2)
            clear HD HF HX
            go_wp2
            go_ret
            exact ⟨by first | rfl | (simp; done) | (simp; omega), HB.out⟩
          obtain rfl : D = true := HD.out.2 (.inr ⟨(by first | rfl | trivial), h1, h2, h3, .inr ⟨rfl, h4, h5, h6⟩, .inr ⟨rfl, h9⟩⟩)
          clear HD HF HX
          go_wp2
          go_ret
          exact ⟨by first | rfl | (simp [h9]; done) | (simp; omega), HB.out⟩
end Go.Proofs.Ytgnccfcdonoegaa
/- A key of 32 bytes that are the same. -/

namespace Go.Proofs.Ytgnccfcdonoegaa
open Go.RowKit

def fillC (b : Int) (k : Nat) : Array Value := ((List.range 32).map fun i => if i < k then Value.int .u8 b else Value.int .u8 0).toArray
set_option maxRecDepth 100000 in
theorem fillC_get (b : Int) (k : Nat) {j : Nat} (hj : j < 32) : (fillC b k)[j]? = some (if j < k then Value.int .u8 b else Value.int .u8 0) := by
  unfold fillC
  simp [hj]
set_option maxRecDepth 100000 in
theorem fillC_set (b : Int) {k : Nat} (hk : k < 32) : (fillC b k).setIfInBounds k (.int .u8 b) = fillC b (k + 1) := by
  apply Array.ext_getElem?
  intro j
  by_cases hj : j < 32
  · rw [Array.getElem?_setIfInBounds, fillC_get b (k + 1) hj]
    by_cases e : k = j
    · subst e
      simp [fillC, hk]
    · rw [if_neg e, fillC_get b k hj]
      by_cases h1 : j < k
      · rw [if_pos h1, if_pos (by omega)]
      · rw [if_neg h1, if_neg (by omega)]
  · have h1 : (fillC b k).size = 32 := by simp [fillC]
    have h2 : (fillC b (k + 1)).size = 32 := by simp [fillC]
    rw [Array.getElem?_eq_none (by simp [h1]; omega), Array.getElem?_eq_none (by omega)]
set_option maxRecDepth 100000 in
theorem fillC_0 (b : Int) : madeCells #[Value.int .u8 0] 32 = fillC b 0 := by
  apply Array.ext_getElem?
  intro j
  by_cases hj : j < 32
  · rw [fillC_get b 0 hj, if_neg (Nat.not_lt_zero j)]
    simp [madeCells, hj, Nat.mod_one]
  · have h2 : (fillC b 0).size = 32 := by simp [fillC]
    rw [Array.getElem?_eq_none (by simp [madeCells]; omega), Array.getElem?_eq_none (by omega)]
def keyL (b : UInt8) : List UInt8 := List.replicate 32 b
set_option maxRecDepth 100000 in
theorem keyL_len (b : UInt8) : (keyL b).length = 32 := by simp [keyL]
/-- what key answers: 32 bytes in new memory -/
def AnsKey (B : Nat) (W' : World) (e : Ending) (b : UInt8) : Prop := ∃ g, e = .returned (.slice (some ⟨g, 0, none⟩) 32 32) ∧ B ≤ g ∧ Rd W' W'.heap.size (some ⟨g, 0, none⟩) (keyL b)
set_option maxRecDepth 100000 in
theorem AnsKey.key {B : Nat} {W' : World} {e : Ending} {b : UInt8} (h : AnsKey B W' e b) : ∃ x : Wk, e = .returned (.slice x.1 32 x.2) ∧ KeyR W' x (keyL b) := by
  obtain ⟨g, h1, -, h3⟩ := h
  exact ⟨(some ⟨g, 0, none⟩, 32), h1, by rw [keyL_len]; exact Nat.le_refl _, (by decide : 32 ≤ 9223372036854775807), h3⟩
set_option maxRecDepth 100000 in
set_option maxHeartbeats 2000000 in
theorem key11_any (b : UInt8) (W : World) : Calls Try.prog 29 #[.int .u8 (b.toNat : Nat)] W fun e W' => AnsKey W.heap.size W' e b ∧ Below W.heap.size W W' := by
  obtain ⟨n, hn⟩ : ∃ n : Nat, n = b.toNat := ⟨_, rfl⟩
  have HN := Lib.hid hn
  rw [← hn]
  clear hn
  obtain ⟨V, hV, hb, hg⟩ := bx1 W 5 (fillC (n : Nat) 0)
  have hmk : (Instr.makeSlice 22 (.int .i64 32) (.int .i64 32)).run Try.prog W = .ok (.slice (some ⟨W.heap.size, 0, none⟩) 32 32) V := by
    have h := run_make_row' (P := Try.prog) 22 5 (.int .u8 0) 1 Try.underlying22 info5 rfl .i64 .i64 32 (by omega) (by omega) W
    rw [hV, ← fillC_0]
    exact h
  have HB := Lib.hid hb
  have HG := Lib.hid hg
  clear hV hb hg
  go_enter Try.func29, Try.ntmps29
  go_upto_region 2 with (fail)
  clear hmk
  go_wp2_with fail
  go_loopw [4] (fun i wr => ∃ k : Nat, k ≤ 32 ∧ i = .int .i64 k ∧ Hid (Bx wr W.heap.size 5 (fillC (n : Nat) k)) ∧ Hid (Below W.heap.size W wr)) (fun i _ => 32 - (intOf i).toNat)
  case atStart => exact ⟨0, Nat.zero_le _, rfl, HG, HB⟩
  case round =>
    clear HG HB
    obtain ⟨k, hk, rfl, HG, HB⟩ := hrel
    by_cases hlt : k < 32
    · have hki : (k : Int) < 32 := by omega
      have hk0 : (0 : Int) ≤ (k : Int) := Int.natCast_nonneg _
      have x0 := HG.out.cell (fillC_get (n : Nat) k hlt)
      rw [if_neg (Nat.lt_irrefl k)] at x0
      have f0 := HG.out.thaw k
      have HG2 := Lib.hid (show Bx (wr.setCell ⟨W.heap.size, k, none⟩ (.int .u8 (n : Nat))) W.heap.size 5 (fillC (n : Nat) (k + 1)) from HG.out.set (fillC_set _ hlt))
      have HB2 := Lib.hid (HB.out.setCell (p := ⟨W.heap.size, k, none⟩) (Nat.le_refl _) (.int .u8 (n : Nat)))
      go_wp2_with fail
      go_roundw
      case rel => exact ⟨k + 1, by omega, by go_num, HG2, HB2⟩
      case measure => simp [intOf]; omega
    · have hki : ¬ (k : Int) < 32 := by omega
      have hk4 : k = 32 := by omega
      subst hk4
      go_wp2_with fail
      go_ret
      refine ⟨⟨W.heap.size, rfl, Nat.le_refl _, fun _ => ⟨W.heap.size, 0, rfl, HG.out.lt, fun j hj => ?_⟩⟩, HB.out⟩
      rw [keyL_len] at hj
      rw [Nat.zero_add, HG.out.cell (fillC_get (n : Nat) 32 hj), if_pos hj, HN.out]
      simp only [keyL, List.getElem_replicate]
end Go.Proofs.Ytgnccfcdonoegaa
