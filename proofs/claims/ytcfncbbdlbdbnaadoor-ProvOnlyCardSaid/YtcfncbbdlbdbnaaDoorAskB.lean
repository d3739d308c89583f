
/- asked: a tag. -/
import Derived.Test.YtcfncbbdlbdbnaaDoorAsk
import Derived.Test.YtcfncbbdlbdbnaaDoorPrI
namespace Go.Proofs.YtcfncbbdlbdbnaaDoor
open Go.RowKit

theorem Mat.far {W W' : World} {B g : Nat} {A : Option Addr} {gs : List (List UInt8)} {cur : Array Value} {t : TypeId} {fr : Nat × Nat} (h : Mat W B A gs) (hg : W.heap[g]? = some (.cells cur t fr)) (hno : ∀ (j : Nat) (m : Int), cur[j]? ≠ some (.int .u8 m)) (hne : ∀ p, A = some p → p.block ≠ g)
    (hk : ∀ k, k ≠ g → W'.heap[k]? = W.heap[k]?) : Mat W' B A gs := by
  intro h0
  obtain ⟨b, o, e, hb, hc⟩ := h h0
  have hbg : b ≠ g := hne _ e
  refine ⟨b, o, e, hb, fun j hj => ?_⟩
  obtain ⟨A', c', f1, f2, f3, f4⟩ := hc j hj
  refine ⟨A', c', ?_, f2, f3, f4.apart hg hno hk⟩
  rw [World.cell?_of_block (w := W) (a := ⟨b, o + j, none⟩) (hk b hbg)]
  exact f1
theorem OwM.al {w : World} {base : Nat} {v : Value} {us : List Value} (h : OwM w base v us) (o : Obj) : OwM (w.alloc o) base v us := World.ownsRow.alloc h o
theorem own_block {w : World} {base : Nat} {A : Option Addr} {n c : Nat} {us : List Value} (h : OwM w base (.slice A n c) us) : ∀ p, A = some p → base ≤ p.block ∧ p.block < w.heap.size := by
  intro p hp
  subst hp
  exact World.ownsRow.lt h p.block rfl
/-- a copy of a row of slices: append to an empty row of the call's own -/
theorem wp_copyM {o : Oper} {a : Act} {K : Act → World → Prop} {Q : Exit → Act → World → Prop} (w : World) (s x : Operand) (ge base : Nat) (G : Option Addr) (m d : Nat) (us : List Value)
    (ho : o.op = .call { callee := .builtin .append, args := #[s, x], argTypes := #[40, 40] })
    (h1 : a.eval s = .slice (some ⟨ge, 0, none⟩) 0 0) (h2 : a.eval x = .slice G m d) (h3 : w.heap[ge]? = some (.cells #[] 25 (0, 0))) (hge : base ≤ ge) (hm : m = us.length) (hm100 : m ≤ 100000) (hc : CM w w.heap.size G us) (hs : ∀ u ∈ us, u.oneCell' = true)
    (hbase : base ≤ w.heap.size) (hK : ∀ A' c' w', OwM w' base (.slice A' m c') us → Below base w w' → (∀ k, k < w.heap.size → k ≠ ge → w'.heap[k]? = w.heap[k]?) → K (a.put o.dst (.slice A' m c')) w') : o.wp Tryd.prog a w K Q := by
  subst hm
  have hown : OwM w base (.slice (some ⟨ge, 0, none⟩) 0 0) [] := OwM.block hge h3
  obtain ⟨v', w', hr, h4, h5⟩ := run_appM o.type w base _ [] us hown G d w.heap.size hc hs (by simp only [List.length_nil]; omega) hbase
  rw [List.nil_append] at h4
  obtain ⟨A', c', rfl, _, _, _⟩ := h4.form
  exact Lib.wp_append_run w s x _ _ ho _ _ h1 h2 _ w' hr (hK A' c' w' h4 ((Below.refl base w).grown h5 hbase (fun k hk => (World.ownsRow.lt hown k hk).1)) (fun k hk hne => h5.block k hk (fun e => hne (by simpa [Value.ownBlock] using e))))
theorem wp_moreM {o : Oper} {a : Act} {K : Act → World → Prop} {Q : Exit → Act → World → Prop} (w : World) (s x : Operand) (gy base : Nat) (A : Option Addr) (m c : Nat) (us : List Value) (v : Value)
    (ho : o.op = .call { callee := .builtin .append, args := #[s, x], argTypes := #[40, 40] })
    (h1 : a.eval s = .slice A m c) (h2 : a.eval x = .slice (some ⟨gy, 0, none⟩) 1 1) (hown : OwM w base (.slice A m c) us) (hm : m = us.length) (hm100 : m ≤ 100000) (h3 : w.heap[gy]? = some (.cells #[v] 25 (0, 0))) (hv : v.oneCell' = true)
    (hbase : base ≤ w.heap.size) (hK : ∀ A' c' w', OwM w' base (.slice A' (m + 1) c') (us ++ [v]) → m + 1 ≤ c' → c' ≤ 9223372036854775807 → CM w' w'.heap.size A' (us ++ [v]) → Below base w w' → K (a.put o.dst (.slice A' (m + 1) c')) w') : o.wp Tryd.prog a w K Q := by
  subst hm
  obtain ⟨v', w', hr, h4, h5⟩ := run_appM o.type w base _ us [v] hown (some ⟨gy, 0, none⟩) 1 w.heap.size (CM.block h3) (by simpa using hv) (by simp only [List.length_cons, List.length_nil]; omega) hbase
  obtain ⟨A', c', hv', h6, h7, h8⟩ := h4.form
  rw [List.length_append] at hv' h6
  subst hv'
  exact Lib.wp_append_run w s x _ _ ho _ _ h1 h2 _ w' hr (hK A' c' w' h4 h6 h7 h8 ((Below.refl base w).grown h5 hbase (fun k hk => (World.ownsRow.lt hown k hk).1)))

set_option maxRecDepth 100000 in
set_option maxHeartbeats 4000000 in
theorem asked0 (i f : Bool) (A : Option Addr) (l : List Pr) (c : Nat) (q : Qn) (T : Option Addr) (tc : Nat) (G : Option Addr) (gs : List (List UInt8)) (d : Nat) (w : World) (hkd : q.kd.toNat % 4 = 0) (hc : l.length ≤ c) (hcm : c ≤ 9223372036854775807) (h1000 : l.length ≤ 100) (htl : q.tag.length ≤ 60) (htc : q.tag.length ≤ tc) (htm : tc ≤ 9223372036854775807) (hgl : gs.length ≤ 100) (hg60 : ∀ g ∈ gs, g.length ≤ 60) (hgd : gs.length ≤ d) (hdm : d ≤ 9223372036854775807)
    (hT : Tab w w.heap.size A l) (hX : Rd w w.heap.size T q.tag) (hG : Mat w w.heap.size G gs) (hK : Ks w) :
    Calls Tryd.prog 22 #[.agg #[.bool i, .slice A l.length c, .bool f], .agg #[.int .u8 (q.kd.toNat : Int), .int .u8 (q.ky.toNat : Int), .int .u8 (q.bb.toNat : Int), .slice T q.tag.length tc], .slice G gs.length d] w fun e W' => AnsA G w.heap.size W' e i (qL l q) (qF l f gs q) (qY i l gs q) (qG gs q) ∧ Below w.heap.size w W' := by
  have hf3 := fold3
  have RT := Lib.hid (fun W (h : Below w.heap.size w W) => (hT.below h (Nat.le_refl _)).more h.size)
  have RX := Lib.hid (fun W (h : Below w.heap.size w W) => (hX.below h (Nat.le_refl _)).more h.size)
  have RG := Lib.hid (fun W (h : Below w.heap.size w W) => (hG.below h (Nat.le_refl _)).more h.size)
  have KB := Lib.hid (fun W (h : Below w.heap.size w W) => Ks.call hK h)
  obtain ⟨n, hn⟩ : ∃ n, n = l.length := ⟨_, rfl⟩
  obtain ⟨m, hm⟩ : ∃ n, n = gs.length := ⟨_, rfl⟩
  obtain ⟨tn, htn⟩ : ∃ n, n = q.tag.length := ⟨_, rfl⟩
  obtain ⟨k1, hk1⟩ : ∃ k, k = q.ky % 3 := ⟨_, rfl⟩
  obtain ⟨b1, hb1⟩ : ∃ k, k = q.bb % 3 := ⟨_, rfl⟩
  have HN := Lib.hid hn
  have HM := Lib.hid hm
  have HTN := Lib.hid htn
  have ek1 : (q.ky.toNat : Int).tmod 3 = (k1.toNat : Int) := by rw [hk1, u8_mod3]; exact Int.tmod_eq_emod_of_nonneg (by omega)
  have ek2 : (q.ky.toNat : Int) % 3 = (k1.toNat : Int) := by rw [hk1, u8_mod3]
  have eb1 : (q.bb.toNat : Int).tmod 3 = (b1.toNat : Int) := by rw [hb1, u8_mod3]; exact Int.tmod_eq_emod_of_nonneg (by omega)
  have eb2 : (q.bb.toNat : Int) % 3 = (b1.toNat : Int) := by rw [hb1, u8_mod3]
  have ed1 : (q.kd.toNat : Int).tmod 4 = 0 := by rw [Int.tmod_eq_emod_of_nonneg (by omega)]; omega
  have ed2 : (q.kd.toNat : Int) % 4 = 0 := by omega
  have eqK : qK q = [k1] := by rw [hk1]; rfl
  have eqB : qB q = [b1] := by rw [hb1]; rfl
  rw [show qL l q = tabF l [k1] [b1] by unfold qL; rw [if_pos hkd, eqK, eqB], show qG gs q = gs ++ [cutF [k1] [b1]] by unfold qG; rw [if_pos hkd, eqK, eqB], show qF l f gs q = f by unfold qF; rw [if_pos hkd], show qY i l gs q = true by unfold qY; rw [if_pos hkd]]
  have hcm' := hcm
  clear hcm
  obtain ⟨us, hul, hvs, hcm⟩ := mat_cm hG
  have RU := Lib.hid (fun W (h : Below w.heap.size w W) => (hvs.below h (Nat.le_refl _)).more h.size)
  have RCM := Lib.hid (fun W (h : Below w.heap.size w W) => (hcm.below h (Nat.le_refl _)).more h.size)
  have HUS := Lib.hid hvs.one
  have HUL := Lib.hid (hm.trans hul.symm)
  have CT := Lib.hid (fun g g' W (h0 : Below w.heap.size w W) (h1 : Rd W W.heap.size (some ⟨g, 0, none⟩) [k1]) (h2 : Rd W W.heap.size (some ⟨g', 0, none⟩) [b1]) => show Calls Tryd.prog 11 #[.agg #[.bool i, .slice A n c, .bool f], .slice (some ⟨g, 0, none⟩) 1 1, .slice (some ⟨g', 0, none⟩) 1 1] W fun e w' => AnsPT w' e i (tabF l [k1] [b1]) f (cutF [k1] [b1]) ∧ Below W.heap.size W w' from by
    rw [HN.out]
    exact ptag_any i f A l c (some ⟨g, 0, none⟩) (some ⟨g', 0, none⟩) [k1] [b1] 1 1 W hc hcm' (by omega) (by simp) (by simp) (by simp) (by omega) (by simp) (by omega) (RT.out W h0) h1 h2 (KB.out W h0))
  have hm100 : m ≤ 100 := by omega
  have HUn := Lib.hid (cutF_length [k1] [b1])
  rw [← hn, ← hm, ← htn]
  clear eqK eqB htl htc hg60 hc hgd h1000 hgl hul hvs hcm
  clear hT hX hG hK hn hm htn hkd
  obtain ⟨V, hV⟩ : ∃ V, V = ((((w.alloc (.cells (pcs i A n c f) 24)).alloc (.cells #[.int .u8 (q.kd.toNat : Int), .int .u8 (q.ky.toNat : Int), .int .u8 (q.bb.toNat : Int), .slice T tn tc] 42)).alloc (.cells (pcs false none 0 0 false) 24)).alloc (.cells #[.int .u8 (k1.toNat : Int)] 5)).alloc (.cells #[.int .u8 (b1.toNat : Int)] 5) := ⟨_, rfl⟩
  obtain ⟨-, -, -, q4, q5⟩ := alloc3 w (.cells (pcs i A n c f) 24) (.cells #[.int .u8 (q.kd.toNat : Int), .int .u8 (q.ky.toNat : Int), .int .u8 (q.bb.toNat : Int), .slice T tn tc] 42) (.cells (pcs false none 0 0 false) 24)
  obtain ⟨p1, p2, p3, -, -⟩ := alloc3 w (.cells (pcs i A n c f) 24) (.cells #[.int .u8 (q.kd.toNat : Int), .int .u8 (q.ky.toNat : Int), .int .u8 (q.bb.toNat : Int), .slice T tn tc] 42) (.cells (pcs false none 0 0 false) 24)
  obtain ⟨r1, r2, -, r4⟩ := alloc2 (((w.alloc (.cells (pcs i A n c f) 24)).alloc (.cells #[.int .u8 (q.kd.toNat : Int), .int .u8 (q.ky.toNat : Int), .int .u8 (q.bb.toNat : Int), .slice T tn tc] 42)).alloc (.cells (pcs false none 0 0 false) 24)) (.cells #[.int .u8 (k1.toNat : Int)] 5) (.cells #[.int .u8 (b1.toNat : Int)] 5)
  have BV := Lib.hid (bel_call q5 r4 q5.size)
  have GP := Lib.hid (old_below p1 r4 (Nat.le_refl _))
  have GQ := Lib.hid (old_below p2 r4 (Nat.le_refl _))
  have GR := Lib.hid (old_below p3 r4 (Nat.le_refl _))
  rw [← hV] at r1 r2
  rw [← hV] at BV GP GQ GR
  rw [q4] at r1 r2
  have RK := Lib.hid (Rd.block (l := [k1]) r1)
  have RB := Lib.hid (Rd.block (l := [b1]) r2)
  have HV := Lib.hid hV
  clear p1 p2 p3 q4 q5 r1 r2 r4 hV hk1 hb1
  generalize tabF l [k1] [b1] = L1 at *
  generalize cutF [k1] [b1] = U at *
  obtain ⟨gr, hgr⟩ : ∃ g, g = w.heap.size + 1 + 1 := ⟨_, rfl⟩
  have HGR := Lib.hid (show w.heap.size ≤ gr by omega)
  rw [← hgr] at GR RK RB
  go_enter Tryd.func22, Tryd.ntmps22
  obtain ⟨x0, x1, x2⟩ := cells3 GP.out
  rw [HV.out] at x0 x1 x2
  go_wp2_with fail
  rw [← HV.out, ← hgr]
  clear HV hgr x0 x1 x2
  with_reducible refine (CT.out _ _ _ BV.out RK.out RB.out).mono ?_
  rintro e w1 ⟨⟨n1, A1, c1, T1, tc1, rfl, hn1, h11, h12, h13, h14, h15, h16⟩, hb⟩
  obtain ⟨g1, hg1⟩ : ∃ g, g = w1.heap.size := ⟨_, rfl⟩
  obtain ⟨V1, hV1⟩ : ∃ V, V = w1.alloc (.cells (pcs i A1 n1 c1 f) 24) := ⟨_, rfl⟩
  have p1 := heap_alloc_new w1 (.cells (pcs i A1 n1 c1 f) 24)
  have b0 := (Below.refl w1.heap.size w1).alloc (Nat.le_refl _) (.cells (pcs i A1 n1 c1 f) 24)
  have b2 := bel_call hb b0 hb.size
  rw [← hV1] at p1 b0 b2
  rw [← hg1] at p1
  have t1 := (h15.below b0 (Nat.le_refl _)).more b0.size
  have u1 := (h16.below b0 (Nat.le_refl _)).more b0.size
  have RT1 := Lib.hid (fun W (h : Below V1.heap.size V1 W) => (t1.below h (Nat.le_refl _)).more h.size)
  have RX1 := Lib.hid (fun W (h : Below V1.heap.size V1 W) => (u1.below h (Nat.le_refl _)).more h.size)
  have G1 := Lib.hid p1
  have GR1 := Lib.hid (old_below GR.out b2 (Nat.le_refl _))
  have BV1 := Lib.hid (bel_call BV.out b2 BV.out.size)
  have HV1 := Lib.hid hV1
  have HG1 := Lib.hid hg1
  have HN1 := Lib.hid hn1
  have hg1r : g1 ≠ gr := by have h1 := (Array.getElem?_eq_some_iff.1 GR.out).1; have h2 := hb.size; omega
  have hgrl : gr ≠ g1 := fun e => hg1r e.symm
  have HLT := Lib.hid (show gr < V1.heap.size from (Array.getElem?_eq_some_iff.1 (old_below GR.out b2 (Nat.le_refl _))).1)
  clear hb b0 b2 t1 u1 p1 hV1 hg1 h15 h16 hn1 GP GQ GR RK RB BV CT
  go_wp2_with fail
  rw [← HV1.out]
  (try rw [← HG1.out])
  clear HV1
  have BB0 := Lib.hid ((Below.refl V1.heap.size V1).drew)
  have BE := Lib.hid (((Below.refl V1.heap.size V1).alloc (Nat.le_refl _) (.cells #[] 25)).drew)
  have BY := Lib.hid (((Below.refl V1.heap.size V1).alloc (Nat.le_refl _) (.cells #[.slice T1 16 tc1] 25)).drew)
  have BEY := Lib.hid ((((Below.refl V1.heap.size V1).alloc (Nat.le_refl _) (.cells #[] 25)).alloc (by simp) (.cells #[.slice T1 16 tc1] 25)).drew)
  have BYE := Lib.hid ((((Below.refl V1.heap.size V1).alloc (Nat.le_refl _) (.cells #[.slice T1 16 tc1] 25)).alloc (by simp) (.cells #[] 25)).drew)
  have F0 := Lib.hid (fun W (h : Below V1.heap.size V1 W) => bel_call BV1.out h BV1.out.size)
  have KEEP := Lib.hid (show ∀ w', Below V1.heap.size V1 w' → (w'.cell? ⟨g1, 0, none⟩ = some (.bool i) ∧ w'.cell? ⟨g1, 1, none⟩ = some (.slice A1 n1 c1) ∧ w'.cell? ⟨g1, 2, none⟩ = some (.bool f)) from fun w' h => by
    obtain ⟨a0, a1', a2'⟩ := cells3 (old_below G1.out h (Nat.le_refl _))
    exact ⟨a0, a1', a2'⟩)
  have CG1 := Lib.hid (fun (o : Oper) (a : Act) (Kk : Act → World → Prop) (Q : Exit → Act → World → Prop) (ge : Nat) (W : World) (ho : o.op = .call { callee := .builtin .append, args := #[.tmp 41, .tmp 42], argTypes := #[40, 40] }) (h1 : a.eval (.tmp 41) = .slice (some ⟨ge, 0, none⟩) 0 0) (h2 : a.eval (.tmp 42) = .slice G m d) (h3 : W.heap[ge]? = some (.cells #[] 25 (0, 0))) (hge : V1.heap.size ≤ ge) (hbel : Below V1.heap.size V1 W) (hK : ∀ A' c' w', OwM w' V1.heap.size (.slice A' m c') us → Below V1.heap.size V1 w' → (∀ k, k < W.heap.size → k ≠ ge → w'.heap[k]? = W.heap[k]?) → Kk (a.put o.dst (.slice A' m c')) w') =>
    (wp_copyM W (.tmp 41) (.tmp 42) ge V1.heap.size G m d us ho h1 h2 h3 hge HUL.out (by omega) (RCM.out W (F0.out W hbel)) HUS.out hbel.size (fun A' c' w' p1 p2 p3 => hK A' c' w' p1 (hbel.trans p2) p3) : o.wp Tryd.prog a W Kk Q))
  have CG2 := Lib.hid (fun (o : Oper) (a : Act) (Kk : Act → World → Prop) (Q : Exit → Act → World → Prop) (gy : Nat) (A : Option Addr) (c : Nat) (W : World) (ho : o.op = .call { callee := .builtin .append, args := #[.tmp 43, .tmp 45], argTypes := #[40, 40] }) (h1 : a.eval (.tmp 43) = .slice A m c) (h2 : a.eval (.tmp 45) = .slice (some ⟨gy, 0, none⟩) 1 1) (hown : OwM W V1.heap.size (.slice A m c) us) (h3 : W.heap[gy]? = some (.cells #[.slice T1 16 tc1] 25 (0, 0))) (hbel : Below V1.heap.size V1 W) (hK : ∀ A' c' w', (∀ p, A' = some p → V1.heap.size ≤ p.block ∧ p.block < w'.heap.size) → m + 1 ≤ c' → c' ≤ 9223372036854775807 → CM w' w'.heap.size A' (us ++ [.slice T1 16 tc1]) → Below V1.heap.size V1 w' → Kk (a.put o.dst (.slice A' (m + 1) c')) w') =>
    (wp_moreM W (.tmp 43) (.tmp 45) gy V1.heap.size A m c us (.slice T1 16 tc1) ho h1 h2 hown HUL.out (by omega) h3 rfl hbel.size (fun A' c' w' p1 p2 p3 p4 p5 => hK A' c' w' (own_block p1) p2 p3 p4 (hbel.trans p5)) : o.wp Tryd.prog a W Kk Q))
  obtain ⟨ea1, ea2, -, -⟩ := alloc2 V1 (.cells #[] 25) (.cells #[.slice T1 16 tc1] 25)
  obtain ⟨ec1, ec2, -, -⟩ := alloc2 V1 (.cells #[.slice T1 16 tc1] 25) (.cells #[] 25)
  have HEa := Lib.hid (show (V1.alloc (.cells #[] 25)).drew.heap[V1.heap.size]? = some (.cells #[] 25) from heap_alloc_new V1 (.cells #[] 25))
  have HEb := Lib.hid (show ((V1.alloc (.cells #[] 25)).alloc (.cells #[.slice T1 16 tc1] 25)).drew.heap[V1.heap.size]? = some (.cells #[] 25) from ea1)
  have HYb := Lib.hid (show ((V1.alloc (.cells #[] 25)).alloc (.cells #[.slice T1 16 tc1] 25)).drew.heap[V1.heap.size + 1]? = some (.cells #[.slice T1 16 tc1] 25) from ea2)
  have HEc := Lib.hid (show ((V1.alloc (.cells #[.slice T1 16 tc1] 25)).alloc (.cells #[] 25)).drew.heap[V1.heap.size + 1]? = some (.cells #[] 25) from ec2)
  have HYc := Lib.hid (show ((V1.alloc (.cells #[.slice T1 16 tc1] 25)).alloc (.cells #[] 25)).drew.heap[V1.heap.size]? = some (.cells #[.slice T1 16 tc1] 25) from ec1)
  have LTb := Lib.hid (Array.getElem?_eq_some_iff.1 HYb.out).1
  have LTc := Lib.hid (Array.getElem?_eq_some_iff.1 HYc.out).1
  have NEb : V1.heap.size + 1 ≠ V1.heap.size := by omega
  have NEc : V1.heap.size ≠ V1.heap.size + 1 := by omega
  have hle1 : V1.heap.size ≤ V1.heap.size + 1 := Nat.le_succ _
  clear ea1 ea2 ec1 ec2
  go_region_held3 (fun w' => w'.cell? ⟨g1, 0, none⟩ = some (.bool i) ∧ w'.cell? ⟨g1, 1, none⟩ = some (.slice A1 n1 c1) ∧ w'.cell? ⟨g1, 2, none⟩ = some (.bool f))
    (first | with_reducible exact KEEP.out _ BB0.out | with_reducible exact KEEP.out _ BE.out | with_reducible exact KEEP.out _ BY.out | with_reducible exact KEEP.out _ BEY.out | with_reducible exact KEEP.out _ BYE.out | with_reducible exact KEEP.out _ BB6.out | with_reducible exact KEEP.out _ (BB6.out.alloc hs6 _) | with_reducible exact KEEP.out _ BB7.out | ((try dsimp only); go_split_ands; refine ⟨?_, ?_, ?_⟩ <;> (with_reducible refine far3 ?_ ?_) <;> (first | (with_reducible assumption) | exact hg1r)))
    (first
    | (rw [if_pos (by rfl)]; refine CG1.out _ _ _ _ _ _ (by rfl) (by rfl) (by rfl) ?_ ?_ ?_ ?_; (first | with_reducible exact HEa.out | with_reducible exact HEb.out | with_reducible exact HEc.out); (first | with_reducible exact Nat.le_refl _ | with_reducible exact hle1); (first | with_reducible exact BE.out | with_reducible exact BEY.out | with_reducible exact BYE.out); intro A6 c6 w6 own6 b6 oth6; have O6 := Lib.hid own6; have BB6 := Lib.hid b6; have hs6 : V1.heap.size ≤ w6.heap.size := BB6.out.size; (first | ((with_reducible have hy := (oth6 _ LTb.out NEb).trans HYb.out); have Y6 := Lib.hid hy; clear hy) | ((with_reducible have hy := (oth6 _ LTc.out NEc).trans HYc.out); have Y6 := Lib.hid hy; clear hy) | skip); clear own6 b6 oth6)
    | (rw [if_pos (by rfl)]; refine CG2.out _ _ _ _ _ _ _ _ (by rfl) (by rfl) (by rfl) ?_ ?_ ?_ ?_; (first | with_reducible exact O6.out | with_reducible exact OwM.al O6.out _); (first | with_reducible exact Y6.out | with_reducible exact heap_alloc_new w6 _); (first | with_reducible exact BB6.out | with_reducible exact BB6.out.alloc hs6 _); intro A7 c7 w7 ob7 m7 x7 cm7 b7; have OB7 := Lib.hid ob7; have CM7 := Lib.hid cm7; have BB7 := Lib.hid b7; have hq1 := old_below G1.out BB7.out (Nat.le_refl _); obtain ⟨v0, v1, v2⟩ := cells3 hq1; have hq2 := old_below GR1.out BB7.out (Nat.le_refl _); obtain ⟨z0, z1, z2⟩ := cells3 hq2; obtain ⟨y0, y1, y2⟩ := frozen3 hq2; have QQ := Lib.hid hq2; clear ob7 cm7 b7 hq1 hq2))
  all_goals
    change Exit.then _ _ _ _ (set3 w7 gr (.bool i) (.slice A1 n1 c1) (.bool f))
    go_wp2_with fail
    (try simp only [Exit.inBlock, Exit.then])
    refine bodyPost_ret (ret3tt rfl _ (set3 w7 gr (.bool i) (.slice A1 n1 c1) (.bool f)) gr (.bool i) (.slice A1 n1 c1) (.bool f) _ _ rfl rfl rfl (set3_same _ _ _ QQ.out)) rfl ?_
    have hBE := Below.set3 (F0.out _ BB7.out) HGR.out (.bool i) (.slice A1 n1 c1) (.bool f)
    have hne7 : ∀ p, A7 = some p → p.block ≠ gr := fun p hp e => by have h1 := (OB7.out p hp).1; have h2 := HLT.out; omega
    have hM := cm_mat ((RU.out _ (F0.out _ BB7.out)).snoc (show VM w7 w7.heap.size (.slice T1 16 tc1) U from ⟨T1, tc1, by rw [HUn.out], by rw [HUn.out]; exact h13, h14, RX1.out _ BB7.out⟩)) CM7.out
    have hM2 := hM.set3 QQ.out hne7 (.bool i) (.slice A1 n1 c1) (.bool f)
    rw [← set3_size w7 gr (.bool i) (.slice A1 n1 c1) (.bool f)] at hM2
    have hT2 := (RT1.out _ BB7.out).put QQ.out (.bool i) (.slice A1 n1 c1) (.bool f)
    exact ⟨⟨n1, A1, c1, m + 1, A7, c7, rfl, HN1.out, h11, h12, by rw [List.length_append, ← HM.out]; rfl, m7, x7, hT2, hM2, fun p hp => .inr ⟨Nat.le_trans BV1.out.size (OB7.out p hp).1, by rw [set3_size]; exact (OB7.out p hp).2⟩⟩, hBE⟩

theorem asked_any (i f : Bool) (A : Option Addr) (l : List Pr) (c : Nat) (q : Qn) (T : Option Addr) (tc : Nat) (G : Option Addr) (gs : List (List UInt8)) (d : Nat) (w : World) (hc : l.length ≤ c) (hcm : c ≤ 9223372036854775807) (h1000 : l.length ≤ 100) (htl : q.tag.length ≤ 60) (htc : q.tag.length ≤ tc) (htm : tc ≤ 9223372036854775807) (hgl : gs.length ≤ 100) (hg60 : ∀ g ∈ gs, g.length ≤ 60) (hgd : gs.length ≤ d) (hdm : d ≤ 9223372036854775807)
    (hT : Tab w w.heap.size A l) (hX : Rd w w.heap.size T q.tag) (hG : Mat w w.heap.size G gs) (hK : Ks w) :
    Calls Tryd.prog 22 #[.agg #[.bool i, .slice A l.length c, .bool f], .agg #[.int .u8 (q.kd.toNat : Int), .int .u8 (q.ky.toNat : Int), .int .u8 (q.bb.toNat : Int), .slice T q.tag.length tc], .slice G gs.length d] w fun e W' => AnsA G w.heap.size W' e i (qL l q) (qF l f gs q) (qY i l gs q) (qG gs q) ∧ Below w.heap.size w W' := by
  have h4 : q.kd.toNat % 4 = 0 ∨ q.kd.toNat % 4 = 1 ∨ q.kd.toNat % 4 = 2 ∨ q.kd.toNat % 4 = 3 := by omega
  rcases h4 with h | h | h | h
  · exact asked0 i f A l c q T tc G gs d w h hc hcm h1000 htl htc htm hgl hg60 hgd hdm hT hX hG hK
  · exact asked1 i f A l c q T tc G gs d w h hc hcm h1000 htl htc htm hgl hg60 hgd hdm hT hX hG hK
  · exact asked2 i f A l c q T tc G gs d w h hc hcm h1000 htl htc htm hgl hg60 hgd hdm hT hX hG hK
  · exact asked3 i f A l c q T tc G gs d w h hc hcm h1000 htl htc htm hgl hg60 hgd hdm hT hX hG hK
end Go.Proofs.YtcfncbbdlbdbnaaDoor
