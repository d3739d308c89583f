
/- asked: one question to a provider. -/
import Derived.Test.YtcfncbbdlbdbnaaDoorPrX
namespace Go.Proofs.YtcfncbbdlbdbnaaDoor
open Go.RowKit

theorem u8_mod3 (x : UInt8) : ((x % 3).toNat : Int) = (x.toNat : Int) % 3 := by
  rw [UInt8.toNat_mod]
  rfl
/-- a provider in a block of its own, and two values -/
theorem ret3tt {fn : Func} {p q r : Tmp} (h : fn.results = #[.cell p 24, .tmp q, .tmp r]) (tmps : Array Value) (W : World) (g : Nat) (x y z v u : Value) (hp : tmps.getD p undef = .pointer (some ⟨g, 0, none⟩)) (hq : tmps.getD q undef = v) (hr : tmps.getD r undef = u) (hg : W.heap[g]? = some (.cells #[x, y, z] 24 (0, 0))) :
    (results fn tmps).run Tryd.prog W = .ok (.tuple #[.agg #[x, y, z], v, u]) W := by
  have hp' : tmps[p]?.getD undef = .pointer (some ⟨g, 0, none⟩) := by simpa using hp
  have hq' : tmps[q]?.getD undef = v := by simpa using hq
  have hr' : tmps[r]?.getD undef = u := by simpa using hr
  simp [results, h, hp', hq', hr', asAddr, run_loadVar_row W g 24 24 #[x, y, z] (0, 0) _ hg Tryd.underlying24 rfl (by kernel_rfl)]
theorem Mat.set3 {W : World} {B g : Nat} {A X : Option Addr} {gs : List (List UInt8)} {i f : Bool} {n c : Nat} {t : TypeId} {fr : Nat × Nat} (h : Mat W B A gs) (hg : W.heap[g]? = some (.cells (pcs i X n c f) t fr)) (hne : ∀ p, A = some p → p.block ≠ g) (x y z : Value) : Mat (Go.Proofs.YtcfncbbdlbdbnaaDoor.set3 W g x y z) B A gs := by
  intro h0
  obtain ⟨b, o, e, hb, hc⟩ := h h0
  have hbg : b ≠ g := hne _ e
  refine ⟨b, o, e, hb, fun j hj => ?_⟩
  obtain ⟨A', c', f1, f2, f3, f4⟩ := hc j hj
  refine ⟨A', c', ?_, f2, f3, f4.set3 hg x y z⟩
  rw [World.cell?_of_block (w := W) (a := ⟨b, o + j, none⟩) (set3_other x y z hbg)]
  exact f1
theorem mat_get {W : World} {B : Nat} {A : Option Addr} {gs : List (List UInt8)} (h : Mat W B A gs) (j : Nat) (hj : j < gs.length) : ∃ b o A' c', A = some ⟨b, o, none⟩ ∧ W.cell? ⟨b, o + j, none⟩ = some (.slice A' (gs.getD j []).length c') ∧ (gs.getD j []).length ≤ c' ∧ c' ≤ 9223372036854775807 ∧ Rd W B A' (gs.getD j []) := by
  obtain ⟨b, o, e, hb, hc⟩ := h (by omega)
  obtain ⟨A', c', f1, f2, f3, f4⟩ := hc j hj
  have eg : gs.getD j [] = gs[j] := by rw [List.getD_eq_getElem?_getD, List.getElem?_eq_getElem hj]; rfl
  rw [eg]
  exact ⟨b, o, A', c', e, f1, f2, f3, f4⟩

set_option maxRecDepth 100000 in
set_option maxHeartbeats 4000000 in
theorem asked3 (i f : Bool) (A : Option Addr) (l : List Pr) (c : Nat) (q : Qn) (T : Option Addr) (tc : Nat) (G : Option Addr) (gs : List (List UInt8)) (d : Nat) (w : World) (hkd : q.kd.toNat % 4 = 3) (hc : l.length ≤ c) (hcm : c ≤ 9223372036854775807) (h1000 : l.length ≤ 100) (htl : q.tag.length ≤ 60) (htc : q.tag.length ≤ tc) (htm : tc ≤ 9223372036854775807) (hgl : gs.length ≤ 100) (hg60 : ∀ g ∈ gs, g.length ≤ 60) (hgd : gs.length ≤ d) (hdm : d ≤ 9223372036854775807)
    (hT : Tab w w.heap.size A l) (hX : Rd w w.heap.size T q.tag) (hG : Mat w w.heap.size G gs) (hK : Ks w) :
    Calls Tryd.prog 22 #[.agg #[.bool i, .slice A l.length c, .bool f], .agg #[.int .u8 (q.kd.toNat : Int), .int .u8 (q.ky.toNat : Int), .int .u8 (q.bb.toNat : Int), .slice T q.tag.length tc], .slice G gs.length d] w fun e W' => AnsA G w.heap.size W' e i (qL l q) (qF l f gs q) (qY i l gs q) (qG gs q) ∧ Below w.heap.size w W' := by
  have hf3 := fold3
  have RT := Lib.hid (fun W (h : Below w.heap.size w W) => (hT.below h (Nat.le_refl _)).more h.size)
  have RX := Lib.hid (fun W (h : Below w.heap.size w W) => (hX.below h (Nat.le_refl _)).more h.size)
  have RG := Lib.hid (fun W (h : Below w.heap.size w W) => (hG.below h (Nat.le_refl _)).more h.size)
  have KB := Lib.hid (fun W (h : Below w.heap.size w W) => Ks.call hK h)
  obtain ⟨n, hn⟩ : ∃ n, n = l.length := ⟨_, rfl⟩
  obtain ⟨m, hm⟩ : ∃ n, n = gs.length := ⟨_, rfl⟩
  obtain ⟨tn, htn⟩ : ∃ n, n = q.tag.length := ⟨_, rfl⟩
  obtain ⟨k1, hk1⟩ : ∃ k, k = q.ky % 3 := ⟨_, rfl⟩
  obtain ⟨b1, hb1⟩ : ∃ k, k = q.bb % 3 := ⟨_, rfl⟩
  have HN := Lib.hid hn
  have HM := Lib.hid hm
  have HTN := Lib.hid htn
  have ek1 : (q.ky.toNat : Int).tmod 3 = (k1.toNat : Int) := by rw [hk1, u8_mod3]; exact Int.tmod_eq_emod_of_nonneg (by omega)
  have ek2 : (q.ky.toNat : Int) % 3 = (k1.toNat : Int) := by rw [hk1, u8_mod3]
  have eb1 : (q.bb.toNat : Int).tmod 3 = (b1.toNat : Int) := by rw [hb1, u8_mod3]; exact Int.tmod_eq_emod_of_nonneg (by omega)
  have eb2 : (q.bb.toNat : Int) % 3 = (b1.toNat : Int) := by rw [hb1, u8_mod3]
  have ed1 : (q.kd.toNat : Int).tmod 4 = 3 := by rw [Int.tmod_eq_emod_of_nonneg (by omega)]; omega
  have ed2 : (q.kd.toNat : Int) % 4 = 3 := by omega
  have eqK : qK q = [k1] := by rw [hk1]; rfl
  have eqB : qB q = [b1] := by rw [hb1]; rfl
  have hq1 : qT gs q = q.tag := by unfold qT; rw [if_neg (by omega), if_neg (by omega)]
  rw [show qL l q = l by unfold qL; rw [if_neg (by omega)], show qG gs q = gs by unfold qG; rw [if_neg (by omega)]]
  obtain ⟨F, hF⟩ : ∃ F, F = qF l f gs q := ⟨_, rfl⟩
  obtain ⟨Y, hY⟩ : ∃ F, F = qY i l gs q := ⟨_, rfl⟩
  rw [← hF, ← hY]
  have hF2 : F = (f || (decide (qT gs q = cutF [k1] [b1]) && !decide (([k1], [b1]) ∈ l))) := by rw [hF]; unfold qF; rw [if_neg (by omega), eqK, eqB]
  have hY2 : Y = (decide (qT gs q = cutF [k1] [b1]) && (decide (([k1], [b1]) ∈ l) || !i)) := by rw [hY]; unfold qY; rw [if_neg (by omega), eqK, eqB]
  rw [hq1] at hF2 hY2
  have CC := Lib.hid (fun g g' W (h0 : Below w.heap.size w W) (h1 : Rd W W.heap.size (some ⟨g, 0, none⟩) [k1]) (h2 : Rd W W.heap.size (some ⟨g', 0, none⟩) [b1]) => show Calls Tryd.prog 13 #[.agg #[.bool i, .slice A n c, .bool f], .slice (some ⟨g, 0, none⟩) 1 1, .slice (some ⟨g', 0, none⟩) 1 1, .slice T tn tc] W fun e w' => e = .returned (.tuple #[.agg #[.bool i, .slice A n c, .bool F], .bool Y]) ∧ Below W.heap.size W w' from by
    rw [HN.out, HTN.out, hF2, hY2]
    exact pcheck_any i f A l c (some ⟨g, 0, none⟩) (some ⟨g', 0, none⟩) T [k1] [b1] q.tag 1 1 tc W (by omega) (by simp) (by simp) (by omega) (by simp) (by omega) (by simp) (by omega) (RT.out W h0) h1 h2 (RX.out W h0) (KB.out W h0))
  have HCC := Lib.hid hc
  have HGD := Lib.hid hgd
  rw [← hn, ← hm, ← htn]
  rw [← hn] at HCC
  rw [← hm] at HGD
  clear hF hY hF2 hY2 hq1 eqK eqB htl htc hg60 hc hgd h1000 hgl
  clear hT hX hG hK hn hm htn hkd
  obtain ⟨V, hV⟩ : ∃ V, V = ((((w.alloc (.cells (pcs i A n c f) 24)).alloc (.cells #[.int .u8 (q.kd.toNat : Int), .int .u8 (q.ky.toNat : Int), .int .u8 (q.bb.toNat : Int), .slice T tn tc] 42)).alloc (.cells (pcs false none 0 0 false) 24)).alloc (.cells #[.int .u8 (k1.toNat : Int)] 5)).alloc (.cells #[.int .u8 (b1.toNat : Int)] 5) := ⟨_, rfl⟩
  obtain ⟨-, -, -, q4, q5⟩ := alloc3 w (.cells (pcs i A n c f) 24) (.cells #[.int .u8 (q.kd.toNat : Int), .int .u8 (q.ky.toNat : Int), .int .u8 (q.bb.toNat : Int), .slice T tn tc] 42) (.cells (pcs false none 0 0 false) 24)
  obtain ⟨p1, p2, p3, -, -⟩ := alloc3 w (.cells (pcs i A n c f) 24) (.cells #[.int .u8 (q.kd.toNat : Int), .int .u8 (q.ky.toNat : Int), .int .u8 (q.bb.toNat : Int), .slice T tn tc] 42) (.cells (pcs false none 0 0 false) 24)
  obtain ⟨r1, r2, -, r4⟩ := alloc2 (((w.alloc (.cells (pcs i A n c f) 24)).alloc (.cells #[.int .u8 (q.kd.toNat : Int), .int .u8 (q.ky.toNat : Int), .int .u8 (q.bb.toNat : Int), .slice T tn tc] 42)).alloc (.cells (pcs false none 0 0 false) 24)) (.cells #[.int .u8 (k1.toNat : Int)] 5) (.cells #[.int .u8 (b1.toNat : Int)] 5)
  have BV := Lib.hid (bel_call q5 r4 q5.size)
  have GP := Lib.hid (old_below p1 r4 (Nat.le_refl _))
  have GQ := Lib.hid (old_below p2 r4 (Nat.le_refl _))
  have GR := Lib.hid (old_below p3 r4 (Nat.le_refl _))
  rw [← hV] at r1 r2
  rw [← hV] at BV GP GQ GR
  rw [q4] at r1 r2
  have RK := Lib.hid (Rd.block (l := [k1]) r1)
  have RB := Lib.hid (Rd.block (l := [b1]) r2)
  have HV := Lib.hid hV
  clear p1 p2 p3 q4 q5 r1 r2 r4 hV hk1 hb1
  go_enter Tryd.func22, Tryd.ntmps22
  obtain ⟨x0, x1, x2⟩ := cells3 GP.out
  rw [HV.out] at x0 x1 x2
  go_wp2_with fail
  rw [← HV.out]
  clear HV x0 x1 x2
  with_reducible refine (CC.out _ _ _ BV.out RK.out RB.out).mono ?_
  rintro e w1 ⟨rfl, hb⟩
  have hr := old_below GR.out hb (Nat.le_refl _)
  obtain ⟨z0, z1, z2⟩ := cells3 (old_alloc hr (.cells (pcs i A n c F) 24))
  obtain ⟨y0, y1, y2⟩ := frozen3 (old_alloc hr (.cells (pcs i A n c F) 24))
  obtain ⟨u0, u1, u2⟩ := cells3 hr
  obtain ⟨v0, v1, v2⟩ := frozen3 hr
  have B1 := bel_call BV.out hb BV.out.size
  have B2 := B1.alloc B1.size (.cells (pcs i A n c F) 24)
  have HR := Lib.hid (old_alloc hr (.cells (pcs i A n c F) 24))
  have HB2 := Lib.hid B2
  clear hb hr B1 B2
  go_wp2_with fail
  (try simp only [Exit.inBlock, Exit.then])
  refine bodyPost_ret (ret3tt rfl _ (set3 (w1.alloc (.cells (pcs i A n c F) 24)) (w.heap.size + 1 + 1) (.bool i) (.slice A n c) (.bool F)) (w.heap.size + 1 + 1) (.bool i) (.slice A n c) (.bool F) _ _ rfl rfl rfl (set3_same _ _ _ HR.out)) rfl ?_
  have hBE := Below.set3 HB2.out (show w.heap.size ≤ w.heap.size + 1 + 1 by omega) (.bool i) (.slice A n c) (.bool F)
  exact ⟨⟨n, A, c, m, _, d, rfl, HN.out, HCC.out, hcm, HM.out, HGD.out, hdm, RT.out _ hBE, RG.out _ hBE, fun p hp => .inl hp⟩, hBE⟩

set_option maxRecDepth 100000 in
set_option maxHeartbeats 4000000 in
theorem asked2 (i f : Bool) (A : Option Addr) (l : List Pr) (c : Nat) (q : Qn) (T : Option Addr) (tc : Nat) (G : Option Addr) (gs : List (List UInt8)) (d : Nat) (w : World) (hkd : q.kd.toNat % 4 = 2) (hc : l.length ≤ c) (hcm : c ≤ 9223372036854775807) (h1000 : l.length ≤ 100) (htl : q.tag.length ≤ 60) (htc : q.tag.length ≤ tc) (htm : tc ≤ 9223372036854775807) (hgl : gs.length ≤ 100) (hg60 : ∀ g ∈ gs, g.length ≤ 60) (hgd : gs.length ≤ d) (hdm : d ≤ 9223372036854775807)
    (hT : Tab w w.heap.size A l) (hX : Rd w w.heap.size T q.tag) (hG : Mat w w.heap.size G gs) (hK : Ks w) :
    Calls Tryd.prog 22 #[.agg #[.bool i, .slice A l.length c, .bool f], .agg #[.int .u8 (q.kd.toNat : Int), .int .u8 (q.ky.toNat : Int), .int .u8 (q.bb.toNat : Int), .slice T q.tag.length tc], .slice G gs.length d] w fun e W' => AnsA G w.heap.size W' e i (qL l q) (qF l f gs q) (qY i l gs q) (qG gs q) ∧ Below w.heap.size w W' := by
  have hf3 := fold3
  by_cases hpos : 0 < gs.length
  · skip
    have RT := Lib.hid (fun W (h : Below w.heap.size w W) => (hT.below h (Nat.le_refl _)).more h.size)
    have RX := Lib.hid (fun W (h : Below w.heap.size w W) => (hX.below h (Nat.le_refl _)).more h.size)
    have RG := Lib.hid (fun W (h : Below w.heap.size w W) => (hG.below h (Nat.le_refl _)).more h.size)
    have KB := Lib.hid (fun W (h : Below w.heap.size w W) => Ks.call hK h)
    obtain ⟨n, hn⟩ : ∃ n, n = l.length := ⟨_, rfl⟩
    obtain ⟨m, hm⟩ : ∃ n, n = gs.length := ⟨_, rfl⟩
    obtain ⟨tn, htn⟩ : ∃ n, n = q.tag.length := ⟨_, rfl⟩
    obtain ⟨k1, hk1⟩ : ∃ k, k = q.ky % 3 := ⟨_, rfl⟩
    obtain ⟨b1, hb1⟩ : ∃ k, k = q.bb % 3 := ⟨_, rfl⟩
    have HN := Lib.hid hn
    have HM := Lib.hid hm
    have HTN := Lib.hid htn
    have ek1 : (q.ky.toNat : Int).tmod 3 = (k1.toNat : Int) := by rw [hk1, u8_mod3]; exact Int.tmod_eq_emod_of_nonneg (by omega)
    have ek2 : (q.ky.toNat : Int) % 3 = (k1.toNat : Int) := by rw [hk1, u8_mod3]
    have eb1 : (q.bb.toNat : Int).tmod 3 = (b1.toNat : Int) := by rw [hb1, u8_mod3]; exact Int.tmod_eq_emod_of_nonneg (by omega)
    have eb2 : (q.bb.toNat : Int) % 3 = (b1.toNat : Int) := by rw [hb1, u8_mod3]
    have ed1 : (q.kd.toNat : Int).tmod 4 = 2 := by rw [Int.tmod_eq_emod_of_nonneg (by omega)]; omega
    have ed2 : (q.kd.toNat : Int) % 4 = 2 := by omega
    have eqK : qK q = [k1] := by rw [hk1]; rfl
    have eqB : qB q = [b1] := by rw [hb1]; rfl
    obtain ⟨j, hj⟩ : ∃ j, j = q.kd.toNat / 4 % gs.length := ⟨_, rfl⟩
    have hjm : j < gs.length := by rw [hj]; exact Nat.mod_lt _ hpos
    have hq1 : qT gs q = gs.getD j [] := by unfold qT; rw [if_neg (by omega), if_pos ⟨hkd, hpos⟩, ← hj]
    obtain ⟨κ, hκ⟩ : ∃ κ, κ = q.kd.toNat / 4 := ⟨_, rfl⟩
    have ej1 : (q.kd.toNat : Int).tdiv 4 = (κ : Int) := by rw [Int.tdiv_eq_ediv_of_nonneg (by omega)]; omega
    have ej2 : (q.kd.toNat : Int) / 4 = (κ : Int) := by omega
    have ej4 : (κ : Int) % (m : Int) = (j : Int) := by rw [hj, ← hκ, hm]; exact (Int.natCast_emod κ gs.length).symm
    have ej3 : (κ : Int).tmod (m : Int) = (j : Int) := by rw [Int.tmod_eq_emod_of_nonneg (by omega)]; exact ej4
    have hm0 : (0 : Int) < (m : Int) := by omega
    have hme : ¬ (m : Int) = 0 := by omega
    have hji : (j : Int) < (m : Int) := by omega
    have hj0 : (0 : Int) ≤ (j : Int) := Int.natCast_nonneg _
    have hm100 : m ≤ 100 := by omega
    have hκ100 : κ ≤ 100 := by have := q.kd.toNat_lt; omega
    have hg6 : (gs.getD j []).length ≤ 60 := hg60 _ (by rw [List.getD_eq_getElem?_getD, List.getElem?_eq_getElem hjm]; exact List.getElem_mem hjm)
    rw [show qL l q = l by unfold qL; rw [if_neg (by omega)], show qG gs q = gs by unfold qG; rw [if_neg (by omega)]]
    obtain ⟨F, hF⟩ : ∃ F, F = qF l f gs q := ⟨_, rfl⟩
    obtain ⟨Y, hY⟩ : ∃ F, F = qY i l gs q := ⟨_, rfl⟩
    rw [← hF, ← hY]
    have hF2 : F = (f || (decide (qT gs q = cutF [k1] [b1]) && !decide (([k1], [b1]) ∈ l))) := by rw [hF]; unfold qF; rw [if_neg (by omega), eqK, eqB]
    have hY2 : Y = (decide (qT gs q = cutF [k1] [b1]) && (decide (([k1], [b1]) ∈ l) || !i)) := by rw [hY]; unfold qY; rw [if_neg (by omega), eqK, eqB]
    rw [hq1] at hF2 hY2
    have CC := Lib.hid (fun g g' X xc W (h0 : Below w.heap.size w W) (h1 : Rd W W.heap.size (some ⟨g, 0, none⟩) [k1]) (h2 : Rd W W.heap.size (some ⟨g', 0, none⟩) [b1]) (h3 : Rd W W.heap.size X (gs.getD j [])) => show Calls Tryd.prog 13 #[.agg #[.bool i, .slice A n c, .bool f], .slice (some ⟨g, 0, none⟩) 1 1, .slice (some ⟨g', 0, none⟩) 1 1, .slice X (gs.getD j []).length xc] W fun e w' => e = .returned (.tuple #[.agg #[.bool i, .slice A n c, .bool F], .bool Y]) ∧ Below W.heap.size W w' from by
      rw [HN.out, hF2, hY2]
      exact pcheck_any i f A l c (some ⟨g, 0, none⟩) (some ⟨g', 0, none⟩) X [k1] [b1] (gs.getD j []) 1 1 xc W (by omega) (by simp) (by simp) (by omega) (by simp) (by omega) (by simp) (by omega) (RT.out W h0) h1 h2 h3 (KB.out W h0))
    have RJ := Lib.hid (fun W (h : Below w.heap.size w W) => mat_get (RG.out W h) j hjm)
    have HCC := Lib.hid hc
    have HGD := Lib.hid hgd
    rw [← hn, ← hm, ← htn]
    rw [← hn] at HCC
    rw [← hm] at HGD
    clear hF hY hF2 hY2 hq1 eqK eqB htl htc hg60 hc hgd h1000 hgl
    clear hT hX hG hK hn hm htn hkd hκ hj hpos hg6
    obtain ⟨V, hV⟩ : ∃ V, V = ((((w.alloc (.cells (pcs i A n c f) 24)).alloc (.cells #[.int .u8 (q.kd.toNat : Int), .int .u8 (q.ky.toNat : Int), .int .u8 (q.bb.toNat : Int), .slice T tn tc] 42)).alloc (.cells (pcs false none 0 0 false) 24)).alloc (.cells #[.int .u8 (k1.toNat : Int)] 5)).alloc (.cells #[.int .u8 (b1.toNat : Int)] 5) := ⟨_, rfl⟩
    obtain ⟨-, -, -, q4, q5⟩ := alloc3 w (.cells (pcs i A n c f) 24) (.cells #[.int .u8 (q.kd.toNat : Int), .int .u8 (q.ky.toNat : Int), .int .u8 (q.bb.toNat : Int), .slice T tn tc] 42) (.cells (pcs false none 0 0 false) 24)
    obtain ⟨p1, p2, p3, -, -⟩ := alloc3 w (.cells (pcs i A n c f) 24) (.cells #[.int .u8 (q.kd.toNat : Int), .int .u8 (q.ky.toNat : Int), .int .u8 (q.bb.toNat : Int), .slice T tn tc] 42) (.cells (pcs false none 0 0 false) 24)
    obtain ⟨r1, r2, -, r4⟩ := alloc2 (((w.alloc (.cells (pcs i A n c f) 24)).alloc (.cells #[.int .u8 (q.kd.toNat : Int), .int .u8 (q.ky.toNat : Int), .int .u8 (q.bb.toNat : Int), .slice T tn tc] 42)).alloc (.cells (pcs false none 0 0 false) 24)) (.cells #[.int .u8 (k1.toNat : Int)] 5) (.cells #[.int .u8 (b1.toNat : Int)] 5)
    have BV := Lib.hid (bel_call q5 r4 q5.size)
    have GP := Lib.hid (old_below p1 r4 (Nat.le_refl _))
    have GQ := Lib.hid (old_below p2 r4 (Nat.le_refl _))
    have GR := Lib.hid (old_below p3 r4 (Nat.le_refl _))
    rw [← hV] at r1 r2
    rw [← hV] at BV GP GQ GR
    rw [q4] at r1 r2
    have RK := Lib.hid (Rd.block (l := [k1]) r1)
    have RB := Lib.hid (Rd.block (l := [b1]) r2)
    have HV := Lib.hid hV
    clear p1 p2 p3 q4 q5 r1 r2 r4 hV hk1 hb1
    obtain ⟨bb, oo, XA, xc, hGe, hcell, -, -, hRX⟩ := RJ.out _ BV.out
    subst hGe
    obtain ⟨xn, hxn⟩ : ∃ n, n = (gs.getD j []).length := ⟨_, rfl⟩
    rw [← hxn] at CC hcell
    have HRX := Lib.hid hRX
    clear hRX hxn RJ hjm
    go_enter Tryd.func22, Tryd.ntmps22
    rw [HV.out] at hcell
    obtain ⟨x0, x1, x2⟩ := cells3 GP.out
    rw [HV.out] at x0 x1 x2
    go_wp2_with fail
    rw [← HV.out]
    clear HV x0 x1 x2
    with_reducible refine (CC.out _ _ _ _ _ BV.out RK.out RB.out HRX.out).mono ?_
    rintro e w1 ⟨rfl, hb⟩
    have hr := old_below GR.out hb (Nat.le_refl _)
    obtain ⟨z0, z1, z2⟩ := cells3 (old_alloc hr (.cells (pcs i A n c F) 24))
    obtain ⟨y0, y1, y2⟩ := frozen3 (old_alloc hr (.cells (pcs i A n c F) 24))
    obtain ⟨u0, u1, u2⟩ := cells3 hr
    obtain ⟨v0, v1, v2⟩ := frozen3 hr
    have B1 := bel_call BV.out hb BV.out.size
    have B2 := B1.alloc B1.size (.cells (pcs i A n c F) 24)
    have HR := Lib.hid (old_alloc hr (.cells (pcs i A n c F) 24))
    have HB2 := Lib.hid B2
    clear hb hr B1 B2
    go_wp2_with fail
    (try simp only [Exit.inBlock, Exit.then])
    refine bodyPost_ret (ret3tt rfl _ (set3 (w1.alloc (.cells (pcs i A n c F) 24)) (w.heap.size + 1 + 1) (.bool i) (.slice A n c) (.bool F)) (w.heap.size + 1 + 1) (.bool i) (.slice A n c) (.bool F) _ _ rfl rfl rfl (set3_same _ _ _ HR.out)) rfl ?_
    have hBE := Below.set3 HB2.out (show w.heap.size ≤ w.heap.size + 1 + 1 by omega) (.bool i) (.slice A n c) (.bool F)
    exact ⟨⟨n, A, c, m, _, d, rfl, HN.out, HCC.out, hcm, HM.out, HGD.out, hdm, RT.out _ hBE, RG.out _ hBE, fun p hp => .inl hp⟩, hBE⟩
  · skip
    have RT := Lib.hid (fun W (h : Below w.heap.size w W) => (hT.below h (Nat.le_refl _)).more h.size)
    have RX := Lib.hid (fun W (h : Below w.heap.size w W) => (hX.below h (Nat.le_refl _)).more h.size)
    have RG := Lib.hid (fun W (h : Below w.heap.size w W) => (hG.below h (Nat.le_refl _)).more h.size)
    have KB := Lib.hid (fun W (h : Below w.heap.size w W) => Ks.call hK h)
    obtain ⟨n, hn⟩ : ∃ n, n = l.length := ⟨_, rfl⟩
    obtain ⟨m, hm⟩ : ∃ n, n = gs.length := ⟨_, rfl⟩
    obtain ⟨tn, htn⟩ : ∃ n, n = q.tag.length := ⟨_, rfl⟩
    obtain ⟨k1, hk1⟩ : ∃ k, k = q.ky % 3 := ⟨_, rfl⟩
    obtain ⟨b1, hb1⟩ : ∃ k, k = q.bb % 3 := ⟨_, rfl⟩
    have HN := Lib.hid hn
    have HM := Lib.hid hm
    have HTN := Lib.hid htn
    have ek1 : (q.ky.toNat : Int).tmod 3 = (k1.toNat : Int) := by rw [hk1, u8_mod3]; exact Int.tmod_eq_emod_of_nonneg (by omega)
    have ek2 : (q.ky.toNat : Int) % 3 = (k1.toNat : Int) := by rw [hk1, u8_mod3]
    have eb1 : (q.bb.toNat : Int).tmod 3 = (b1.toNat : Int) := by rw [hb1, u8_mod3]; exact Int.tmod_eq_emod_of_nonneg (by omega)
    have eb2 : (q.bb.toNat : Int) % 3 = (b1.toNat : Int) := by rw [hb1, u8_mod3]
    have ed1 : (q.kd.toNat : Int).tmod 4 = 2 := by rw [Int.tmod_eq_emod_of_nonneg (by omega)]; omega
    have ed2 : (q.kd.toNat : Int) % 4 = 2 := by omega
    have eqK : qK q = [k1] := by rw [hk1]; rfl
    have eqB : qB q = [b1] := by rw [hb1]; rfl
    have hq1 : qT gs q = q.tag := by unfold qT; rw [if_neg (by omega), if_neg (by omega)]
    have hm0 : ¬ (0 : Int) < (m : Int) := by omega
    rw [show qL l q = l by unfold qL; rw [if_neg (by omega)], show qG gs q = gs by unfold qG; rw [if_neg (by omega)]]
    obtain ⟨F, hF⟩ : ∃ F, F = qF l f gs q := ⟨_, rfl⟩
    obtain ⟨Y, hY⟩ : ∃ F, F = qY i l gs q := ⟨_, rfl⟩
    rw [← hF, ← hY]
    have hF2 : F = (f || (decide (qT gs q = cutF [k1] [b1]) && !decide (([k1], [b1]) ∈ l))) := by rw [hF]; unfold qF; rw [if_neg (by omega), eqK, eqB]
    have hY2 : Y = (decide (qT gs q = cutF [k1] [b1]) && (decide (([k1], [b1]) ∈ l) || !i)) := by rw [hY]; unfold qY; rw [if_neg (by omega), eqK, eqB]
    rw [hq1] at hF2 hY2
    have CC := Lib.hid (fun g g' W (h0 : Below w.heap.size w W) (h1 : Rd W W.heap.size (some ⟨g, 0, none⟩) [k1]) (h2 : Rd W W.heap.size (some ⟨g', 0, none⟩) [b1]) => show Calls Tryd.prog 13 #[.agg #[.bool i, .slice A n c, .bool f], .slice (some ⟨g, 0, none⟩) 1 1, .slice (some ⟨g', 0, none⟩) 1 1, .slice T tn tc] W fun e w' => e = .returned (.tuple #[.agg #[.bool i, .slice A n c, .bool F], .bool Y]) ∧ Below W.heap.size W w' from by
      rw [HN.out, HTN.out, hF2, hY2]
      exact pcheck_any i f A l c (some ⟨g, 0, none⟩) (some ⟨g', 0, none⟩) T [k1] [b1] q.tag 1 1 tc W (by omega) (by simp) (by simp) (by omega) (by simp) (by omega) (by simp) (by omega) (RT.out W h0) h1 h2 (RX.out W h0) (KB.out W h0))
    have HCC := Lib.hid hc
    have HGD := Lib.hid hgd
    rw [← hn, ← hm, ← htn]
    rw [← hn] at HCC
    rw [← hm] at HGD
    clear hF hY hF2 hY2 hq1 eqK eqB htl htc hg60 hc hgd h1000 hgl
    clear hT hX hG hK hn hm htn hkd hpos
    obtain ⟨V, hV⟩ : ∃ V, V = ((((w.alloc (.cells (pcs i A n c f) 24)).alloc (.cells #[.int .u8 (q.kd.toNat : Int), .int .u8 (q.ky.toNat : Int), .int .u8 (q.bb.toNat : Int), .slice T tn tc] 42)).alloc (.cells (pcs false none 0 0 false) 24)).alloc (.cells #[.int .u8 (k1.toNat : Int)] 5)).alloc (.cells #[.int .u8 (b1.toNat : Int)] 5) := ⟨_, rfl⟩
    obtain ⟨-, -, -, q4, q5⟩ := alloc3 w (.cells (pcs i A n c f) 24) (.cells #[.int .u8 (q.kd.toNat : Int), .int .u8 (q.ky.toNat : Int), .int .u8 (q.bb.toNat : Int), .slice T tn tc] 42) (.cells (pcs false none 0 0 false) 24)
    obtain ⟨p1, p2, p3, -, -⟩ := alloc3 w (.cells (pcs i A n c f) 24) (.cells #[.int .u8 (q.kd.toNat : Int), .int .u8 (q.ky.toNat : Int), .int .u8 (q.bb.toNat : Int), .slice T tn tc] 42) (.cells (pcs false none 0 0 false) 24)
    obtain ⟨r1, r2, -, r4⟩ := alloc2 (((w.alloc (.cells (pcs i A n c f) 24)).alloc (.cells #[.int .u8 (q.kd.toNat : Int), .int .u8 (q.ky.toNat : Int), .int .u8 (q.bb.toNat : Int), .slice T tn tc] 42)).alloc (.cells (pcs false none 0 0 false) 24)) (.cells #[.int .u8 (k1.toNat : Int)] 5) (.cells #[.int .u8 (b1.toNat : Int)] 5)
    have BV := Lib.hid (bel_call q5 r4 q5.size)
    have GP := Lib.hid (old_below p1 r4 (Nat.le_refl _))
    have GQ := Lib.hid (old_below p2 r4 (Nat.le_refl _))
    have GR := Lib.hid (old_below p3 r4 (Nat.le_refl _))
    rw [← hV] at r1 r2
    rw [← hV] at BV GP GQ GR
    rw [q4] at r1 r2
    have RK := Lib.hid (Rd.block (l := [k1]) r1)
    have RB := Lib.hid (Rd.block (l := [b1]) r2)
    have HV := Lib.hid hV
    clear p1 p2 p3 q4 q5 r1 r2 r4 hV hk1 hb1
    go_enter Tryd.func22, Tryd.ntmps22
    obtain ⟨x0, x1, x2⟩ := cells3 GP.out
    rw [HV.out] at x0 x1 x2
    go_wp2_with fail
    rw [← HV.out]
    clear HV x0 x1 x2
    with_reducible refine (CC.out _ _ _ BV.out RK.out RB.out).mono ?_
    rintro e w1 ⟨rfl, hb⟩
    have hr := old_below GR.out hb (Nat.le_refl _)
    obtain ⟨z0, z1, z2⟩ := cells3 (old_alloc hr (.cells (pcs i A n c F) 24))
    obtain ⟨y0, y1, y2⟩ := frozen3 (old_alloc hr (.cells (pcs i A n c F) 24))
    obtain ⟨u0, u1, u2⟩ := cells3 hr
    obtain ⟨v0, v1, v2⟩ := frozen3 hr
    have B1 := bel_call BV.out hb BV.out.size
    have B2 := B1.alloc B1.size (.cells (pcs i A n c F) 24)
    have HR := Lib.hid (old_alloc hr (.cells (pcs i A n c F) 24))
    have HB2 := Lib.hid B2
    clear hb hr B1 B2
    go_wp2_with fail
    (try simp only [Exit.inBlock, Exit.then])
    refine bodyPost_ret (ret3tt rfl _ (set3 (w1.alloc (.cells (pcs i A n c F) 24)) (w.heap.size + 1 + 1) (.bool i) (.slice A n c) (.bool F)) (w.heap.size + 1 + 1) (.bool i) (.slice A n c) (.bool F) _ _ rfl rfl rfl (set3_same _ _ _ HR.out)) rfl ?_
    have hBE := Below.set3 HB2.out (show w.heap.size ≤ w.heap.size + 1 + 1 by omega) (.bool i) (.slice A n c) (.bool F)
    exact ⟨⟨n, A, c, m, _, d, rfl, HN.out, HCC.out, hcm, HM.out, HGD.out, hdm, RT.out _ hBE, RG.out _ hBE, fun p hp => .inl hp⟩, hBE⟩

set_option maxRecDepth 100000 in
set_option maxHeartbeats 4000000 in
theorem asked1 (i f : Bool) (A : Option Addr) (l : List Pr) (c : Nat) (q : Qn) (T : Option Addr) (tc : Nat) (G : Option Addr) (gs : List (List UInt8)) (d : Nat) (w : World) (hkd : q.kd.toNat % 4 = 1) (hc : l.length ≤ c) (hcm : c ≤ 9223372036854775807) (h1000 : l.length ≤ 100) (htl : q.tag.length ≤ 60) (htc : q.tag.length ≤ tc) (htm : tc ≤ 9223372036854775807) (hgl : gs.length ≤ 100) (hg60 : ∀ g ∈ gs, g.length ≤ 60) (hgd : gs.length ≤ d) (hdm : d ≤ 9223372036854775807)
    (hT : Tab w w.heap.size A l) (hX : Rd w w.heap.size T q.tag) (hG : Mat w w.heap.size G gs) (hK : Ks w) :
    Calls Tryd.prog 22 #[.agg #[.bool i, .slice A l.length c, .bool f], .agg #[.int .u8 (q.kd.toNat : Int), .int .u8 (q.ky.toNat : Int), .int .u8 (q.bb.toNat : Int), .slice T q.tag.length tc], .slice G gs.length d] w fun e W' => AnsA G w.heap.size W' e i (qL l q) (qF l f gs q) (qY i l gs q) (qG gs q) ∧ Below w.heap.size w W' := by
  have hf3 := fold3
  have RT := Lib.hid (fun W (h : Below w.heap.size w W) => (hT.below h (Nat.le_refl _)).more h.size)
  have RX := Lib.hid (fun W (h : Below w.heap.size w W) => (hX.below h (Nat.le_refl _)).more h.size)
  have RG := Lib.hid (fun W (h : Below w.heap.size w W) => (hG.below h (Nat.le_refl _)).more h.size)
  have KB := Lib.hid (fun W (h : Below w.heap.size w W) => Ks.call hK h)
  obtain ⟨n, hn⟩ : ∃ n, n = l.length := ⟨_, rfl⟩
  obtain ⟨m, hm⟩ : ∃ n, n = gs.length := ⟨_, rfl⟩
  obtain ⟨tn, htn⟩ : ∃ n, n = q.tag.length := ⟨_, rfl⟩
  obtain ⟨k1, hk1⟩ : ∃ k, k = q.ky % 3 := ⟨_, rfl⟩
  obtain ⟨b1, hb1⟩ : ∃ k, k = q.bb % 3 := ⟨_, rfl⟩
  have HN := Lib.hid hn
  have HM := Lib.hid hm
  have HTN := Lib.hid htn
  have ek1 : (q.ky.toNat : Int).tmod 3 = (k1.toNat : Int) := by rw [hk1, u8_mod3]; exact Int.tmod_eq_emod_of_nonneg (by omega)
  have ek2 : (q.ky.toNat : Int) % 3 = (k1.toNat : Int) := by rw [hk1, u8_mod3]
  have eb1 : (q.bb.toNat : Int).tmod 3 = (b1.toNat : Int) := by rw [hb1, u8_mod3]; exact Int.tmod_eq_emod_of_nonneg (by omega)
  have eb2 : (q.bb.toNat : Int) % 3 = (b1.toNat : Int) := by rw [hb1, u8_mod3]
  have ed1 : (q.kd.toNat : Int).tmod 4 = 1 := by rw [Int.tmod_eq_emod_of_nonneg (by omega)]; omega
  have ed2 : (q.kd.toNat : Int) % 4 = 1 := by omega
  have eqK : qK q = [k1] := by rw [hk1]; rfl
  have eqB : qB q = [b1] := by rw [hb1]; rfl
  have hq1 : qT gs q = cutF [k1] [b1] := by unfold qT; rw [if_pos hkd, eqK, eqB]
  rw [show qL l q = l by unfold qL; rw [if_neg (by omega)], show qG gs q = gs by unfold qG; rw [if_neg (by omega)]]
  obtain ⟨F, hF⟩ : ∃ F, F = qF l f gs q := ⟨_, rfl⟩
  obtain ⟨Y, hY⟩ : ∃ F, F = qY i l gs q := ⟨_, rfl⟩
  rw [← hF, ← hY]
  have hF2 : F = (f || (decide (qT gs q = cutF [k1] [b1]) && !decide (([k1], [b1]) ∈ l))) := by rw [hF]; unfold qF; rw [if_neg (by omega), eqK, eqB]
  have hY2 : Y = (decide (qT gs q = cutF [k1] [b1]) && (decide (([k1], [b1]) ∈ l) || !i)) := by rw [hY]; unfold qY; rw [if_neg (by omega), eqK, eqB]
  rw [hq1] at hF2 hY2
  have CT := Lib.hid (fun g g' W (h1 : Rd W W.heap.size (some ⟨g, 0, none⟩) [k1]) (h2 : Rd W W.heap.size (some ⟨g', 0, none⟩) [b1]) => show Calls Tryd.prog 32 #[.slice (some ⟨g, 0, none⟩) 1 1, .slice (some ⟨g', 0, none⟩) 1 1] W fun e w' => AnsB w' e (tagF [k1] [b1]) 32 ∧ Below W.heap.size W w' from
    (refTag_any (some ⟨g, 0, none⟩) (some ⟨g', 0, none⟩) [k1] [b1] 1 1 W (by simp) (by simp) (by simp) h1 h2).mono fun _ _ ⟨a, b⟩ => ⟨a.b (tagF_length _ _), b⟩)
  have CC := Lib.hid (fun g g' X xc W (h0 : Below w.heap.size w W) (h1 : Rd W W.heap.size (some ⟨g, 0, none⟩) [k1]) (h2 : Rd W W.heap.size (some ⟨g', 0, none⟩) [b1]) (h3 : Rd W W.heap.size X (tagF [k1] [b1])) => show Calls Tryd.prog 13 #[.agg #[.bool i, .slice A n c, .bool f], .slice (some ⟨g, 0, none⟩) 1 1, .slice (some ⟨g', 0, none⟩) 1 1, .slice X 16 xc] W fun e w' => e = .returned (.tuple #[.agg #[.bool i, .slice A n c, .bool F], .bool Y]) ∧ Below W.heap.size W w' from by
    rw [HN.out, hF2, hY2]
    have h := pcheck_any i f A l c (some ⟨g, 0, none⟩) (some ⟨g', 0, none⟩) X [k1] [b1] (cutF [k1] [b1]) 1 1 xc W (by omega) (by simp) (by simp) (by rw [cutF_length]; omega) (by simp) (by omega) (by simp) (by omega) (RT.out W h0) h1 h2 (rd16 h3 (by rw [tagF_length]; omega)) (KB.out W h0)
    rw [cutF_length] at h
    exact h)
  have HCC := Lib.hid hc
  have HGD := Lib.hid hgd
  rw [← hn, ← hm, ← htn]
  rw [← hn] at HCC
  rw [← hm] at HGD
  clear hF hY hF2 hY2 hq1 eqK eqB htl htc hg60 hc hgd h1000 hgl
  clear hT hX hG hK hn hm htn hkd
  obtain ⟨V, hV⟩ : ∃ V, V = ((((w.alloc (.cells (pcs i A n c f) 24)).alloc (.cells #[.int .u8 (q.kd.toNat : Int), .int .u8 (q.ky.toNat : Int), .int .u8 (q.bb.toNat : Int), .slice T tn tc] 42)).alloc (.cells (pcs false none 0 0 false) 24)).alloc (.cells #[.int .u8 (k1.toNat : Int)] 5)).alloc (.cells #[.int .u8 (b1.toNat : Int)] 5) := ⟨_, rfl⟩
  obtain ⟨-, -, -, q4, q5⟩ := alloc3 w (.cells (pcs i A n c f) 24) (.cells #[.int .u8 (q.kd.toNat : Int), .int .u8 (q.ky.toNat : Int), .int .u8 (q.bb.toNat : Int), .slice T tn tc] 42) (.cells (pcs false none 0 0 false) 24)
  obtain ⟨p1, p2, p3, -, -⟩ := alloc3 w (.cells (pcs i A n c f) 24) (.cells #[.int .u8 (q.kd.toNat : Int), .int .u8 (q.ky.toNat : Int), .int .u8 (q.bb.toNat : Int), .slice T tn tc] 42) (.cells (pcs false none 0 0 false) 24)
  obtain ⟨r1, r2, -, r4⟩ := alloc2 (((w.alloc (.cells (pcs i A n c f) 24)).alloc (.cells #[.int .u8 (q.kd.toNat : Int), .int .u8 (q.ky.toNat : Int), .int .u8 (q.bb.toNat : Int), .slice T tn tc] 42)).alloc (.cells (pcs false none 0 0 false) 24)) (.cells #[.int .u8 (k1.toNat : Int)] 5) (.cells #[.int .u8 (b1.toNat : Int)] 5)
  have BV := Lib.hid (bel_call q5 r4 q5.size)
  have GP := Lib.hid (old_below p1 r4 (Nat.le_refl _))
  have GQ := Lib.hid (old_below p2 r4 (Nat.le_refl _))
  have GR := Lib.hid (old_below p3 r4 (Nat.le_refl _))
  rw [← hV] at r1 r2
  rw [← hV] at BV GP GQ GR
  rw [q4] at r1 r2
  have RK := Lib.hid (Rd.block (l := [k1]) r1)
  have RB := Lib.hid (Rd.block (l := [b1]) r2)
  have HV := Lib.hid hV
  clear p1 p2 p3 q4 q5 r1 r2 r4 hV hk1 hb1
  obtain ⟨gr, hgr⟩ : ∃ g, g = w.heap.size + 1 + 1 := ⟨_, rfl⟩
  have HGR := Lib.hid (show w.heap.size ≤ gr by omega)
  rw [← hgr] at GR RK RB
  have RKV := Lib.hid (fun W (h : Below V.heap.size V W) => (RK.out.below h (Nat.le_refl _)).more h.size)
  have RBV := Lib.hid (fun W (h : Below V.heap.size V W) => (RB.out.below h (Nat.le_refl _)).more h.size)
  have F0 := Lib.hid (fun W (h : Below V.heap.size V W) => bel_call BV.out h BV.out.size)
  go_enter Tryd.func22, Tryd.ntmps22
  go_wp2_with fail
  rw [← HV.out, ← hgr]
  clear HV hgr RK RB
  have BB0 := Lib.hid ((Below.refl V.heap.size V).drew)
  have BA := Lib.hid (((Below.refl V.heap.size V).alloc (Nat.le_refl _) (.cells #[.bool false, .slice none 0 0, .bool false] 24)).drew)
  have KEEP := Lib.hid (show ∀ w', Below V.heap.size V w' → (Below V.heap.size V w' ∧ w'.cell? ⟨w.heap.size, 0, none⟩ = some (.bool i) ∧ w'.cell? ⟨w.heap.size, 1, none⟩ = some (.slice A n c) ∧ w'.cell? ⟨w.heap.size, 2, none⟩ = some (.bool f)) from fun w' h => by
    obtain ⟨a0, a1', a2'⟩ := cells3 (old_below GP.out h (Nat.le_refl _))
    exact ⟨h, a0, a1', a2'⟩)
  go_cut [13, 14] (fun v u wx => ∃ g, v = .pointer (some ⟨g, 0, none⟩) ∧ u = .bool Y ∧ wx.heap[g]? = some (.cells (pcs i A n c F) 24 (0, 0)) ∧ V.heap.size ≤ g ∧ Below V.heap.size V wx)
  case first =>
    go_region_held3 (fun w' => Below V.heap.size V w' ∧ w'.cell? ⟨w.heap.size, 0, none⟩ = some (.bool i) ∧ w'.cell? ⟨w.heap.size, 1, none⟩ = some (.slice A n c) ∧ w'.cell? ⟨w.heap.size, 2, none⟩ = some (.bool f))
      (first | with_reducible exact KEEP.out _ BB0.out | with_reducible exact KEEP.out _ BA.out | with_reducible exact KEEP.out _ BB1.out | with_reducible exact KEEP.out _ (BB1.out.alloc hs1 _) | with_reducible exact KEEP.out _ BB2.out | with_reducible exact KEEP.out _ (BB2.out.alloc hs2 _) | exact KEEP.out _ (Below.set3 BB2.out (Nat.le_refl _) _ _ _) | exact KEEP.out _ (Below.set3 BB2.out hs1 _ _ _))
      (first
      | (go_at_call 32; (with_reducible refine (CT.out _ _ _ ?_ ?_).mono ?_); (first | with_reducible exact RKV.out _ BB0.out | with_reducible exact RKV.out _ BA.out); (first | with_reducible exact RBV.out _ BB0.out | with_reducible exact RBV.out _ BA.out); rintro e ww1 ⟨⟨XA, xc, rfl, h11, h12, h13⟩, hb⟩; have BB1 := Lib.hid (by first | with_reducible exact bel_call BB0.out hb BB0.out.size | with_reducible exact bel_call BA.out hb BA.out.size); have hs1 : V.heap.size ≤ ww1.heap.size := BB1.out.size; (first | (have hz := old_below (g := V.heap.size) (by exact heap_alloc_new V (.cells #[.bool false, .slice none 0 0, .bool false] 24)) hb (Nat.le_refl _); have ZZ1 := Lib.hid hz; clear hz) | skip); have HX := Lib.hid h13; have h16i : (16 : Int) ≤ (xc : Int) := (by omega); clear h13 h11; clear hb)
      | (go_at_call 13; (with_reducible refine (CC.out _ _ _ _ _ ?_ ?_ ?_ ?_).mono ?_); (first | with_reducible exact F0.out _ BB1.out | with_reducible exact F0.out _ (BB1.out.alloc hs1 (.cells #[.bool false, .slice none 0 0, .bool false] 24))); (first | with_reducible exact RKV.out _ BB1.out | with_reducible exact RKV.out _ (BB1.out.alloc hs1 (.cells #[.bool false, .slice none 0 0, .bool false] 24))); (first | with_reducible exact RBV.out _ BB1.out | with_reducible exact RBV.out _ (BB1.out.alloc hs1 (.cells #[.bool false, .slice none 0 0, .bool false] 24))); (first | with_reducible exact HX.out | with_reducible exact HX.out.al _); rintro e ww2 ⟨rfl, hb⟩; have BB2 := Lib.hid (by first | with_reducible exact bel_call BB1.out hb BB1.out.size | with_reducible exact bel_call (BB1.out.alloc hs1 (.cells #[.bool false, .slice none 0 0, .bool false] 24)) hb (BB1.out.alloc hs1 (.cells #[.bool false, .slice none 0 0, .bool false] 24)).size); have hs2 : V.heap.size ≤ ww2.heap.size := BB2.out.size; (first | (have hz := old_below ZZ1.out hb (Nat.le_refl _); have ZZ2 := Lib.hid hz; obtain ⟨z0, z1, z2⟩ := cells3 hz; obtain ⟨y0, y1, y2⟩ := frozen3 hz; clear hz) | (have hz := old_below (g := ww1.heap.size) (by exact heap_alloc_new ww1 (.cells #[.bool false, .slice none 0 0, .bool false] 24)) hb (Nat.le_refl _); have ZZ2 := Lib.hid hz; obtain ⟨z0, z1, z2⟩ := cells3 hz; obtain ⟨y0, y1, y2⟩ := frozen3 hz; clear hz) | skip); clear hb))
    all_goals
      go_wp2_with fail
      go_meet
      case rel => first
        | (refine ⟨ww2.heap.size, by with_reducible rfl, rfl, heap_alloc_new ww2 _, hs2, BB2.out.alloc hs2 _⟩)
        | (refine ⟨V.heap.size, by with_reducible rfl, rfl, set3_same (.bool i) (.slice A n c) (.bool F) ZZ2.out, (Nat.le_refl _), Below.set3 BB2.out (Nat.le_refl _) (.bool i) (.slice A n c) (.bool F)⟩)
        | (refine ⟨ww1.heap.size, by with_reducible rfl, rfl, set3_same (.bool i) (.slice A n c) (.bool F) ZZ2.out, hs1, Below.set3 BB2.out hs1 (.bool i) (.slice A n c) (.bool F)⟩)
  case rest =>
  obtain ⟨g9, rfl, rfl, hg, hgl, hB⟩ := hcut
  obtain ⟨V2, hV2⟩ : ∃ x, x = wc := ⟨_, rfl⟩
  rw [← hV2] at hg hB
  rw [← hV2]
  have hr := old_below GR.out hB (Nat.le_refl _)
  obtain ⟨x0, x1, x2⟩ := cells3 hg
  obtain ⟨u0, u1, u2⟩ := cells3 hr
  obtain ⟨v0, v1, v2⟩ := frozen3 hr
  have HR := Lib.hid hr
  have HB2 := Lib.hid (F0.out _ hB)
  clear hV2 hB hr hg
  go_wp2_with fail
  (try simp only [Exit.inBlock, Exit.then])
  refine bodyPost_ret (ret3tt rfl _ (set3 V2 gr (.bool i) (.slice A n c) (.bool F)) gr (.bool i) (.slice A n c) (.bool F) _ _ rfl rfl rfl (set3_same _ _ _ HR.out)) rfl ?_
  have hBE := Below.set3 HB2.out HGR.out (.bool i) (.slice A n c) (.bool F)
  exact ⟨⟨n, A, c, m, _, d, rfl, HN.out, HCC.out, hcm, HM.out, HGD.out, hdm, RT.out _ hBE, RG.out _ hBE, fun p hp => .inl hp⟩, hBE⟩
end Go.Proofs.YtcfncbbdlbdbnaaDoor
