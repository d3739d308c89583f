
/- RingOne's walk. -/
import Derived.Test.YtgnccfcdonoegaaJ12
namespace Go.Proofs.Ytgnccfcdonoegaa
open Go.RowKit

set_option maxRecDepth 100000 in
theorem offer_cases {r : Rg} {no : Int} (a b : UInt8) (h : RightR r) :
    (((no < 1 ∨ 2147483647 < no) ∧ offerR r no (keyL a) = (r, 1) ∧ offerR r no (keyL b) = (r, 1) ∧ offerR (offerR r no (keyL a)).1 no (keyL b) = (r, 1)) ∨
    ((1 ≤ no ∧ no ≤ 2147483647) ∧ offerR r no (keyL a) = (r, 9) ∧ offerR r no (keyL b) = (r, 9) ∧ offerR (offerR r no (keyL a)).1 no (keyL b) = (r, 9)) ∨
    ((1 ≤ no ∧ no ≤ 2147483647) ∧ (offerR r no (keyL a)).2 = 0 ∧ offerR (offerR r no (keyL a)).1 no (keyL b) = offerR r no (keyL b) ∧ (offerR r no (keyL b)).2 = 0 ∧ r.cur.no < no ∧
      findR (offerR r no (keyL b)).1 no = (keyL b, true) ∧ (offerR (offerR r no (keyL b)).1 (no - 1) (keyL a)).2 ≠ 0 ∧ withdrawR (offerR r no (keyL b)).1 = withdrawR (offerR r no (keyL a)).1)) := by
  by_cases h1 : no < 1 ∨ 2147483647 < no
  · have e : ∀ c, offerR r no (keyL c) = (r, 1) := fun c => by unfold offerR; rw [if_pos (.inr h1)]
    exact .inl ⟨h1, e a, e b, by rw [e a]; exact e b⟩
  · have h2 : 1 ≤ no ∧ no ≤ 2147483647 := by omega
    have hn : ∀ c, ¬ ((keyL c).length ≠ 32 ∨ no < 1 ∨ 2147483647 < no) := fun c k => by
      rcases k with k | k
      · exact k (keyL_len c)
      · exact h1 k
    by_cases h3 : r = rg0 ∨ no ≤ r.cur.no ∨ no < r.pend.no
    · have e : ∀ c, offerR r no (keyL c) = (r, 9) := fun c => by unfold offerR; rw [if_neg (hn c), if_pos h3]
      exact .inr (.inl ⟨h2, e a, e b, by rw [e a]; exact e b⟩)
    · have e : ∀ c, offerR r no (keyL c) = ({ r with pend := ⟨no, keyL c⟩, top := max r.top no }, 0) := fun c => by unfold offerR; rw [if_neg (hn c), if_neg h3]
      have hcur : r.cur.no < no := by
        simp only [not_or, Int.not_le, Int.not_lt] at h3
        exact h3.2.1
      have hr : r ≠ rg0 := fun k => h3 (.inl k)
      rcases h with h | ⟨a1, a2, a3, a4, a5, a6⟩
      · exact absurd h hr
      have ht : ∀ c : List UInt8, (⟨r.cur, r.old, ⟨no, c⟩, r.left, max r.top no⟩ : Rg) ≠ rg0 := fun c k => by
        have k1 := congrArg Rg.cur k
        have k2 : r.cur.no = 0 := congrArg Gn.no k1
        have := a1.1
        omega
      refine .inr (.inr ⟨h2, by rw [e], ?_, by rw [e], hcur, ?_, ?_, ?_⟩)
      · rw [e a, e b]
        unfold offerR
        rw [if_neg (hn b), if_neg (by
          rintro (k | k | k)
          · exact ht _ k
          · exact absurd k (by show ¬ no ≤ r.cur.no; omega)
          · exact absurd k (by show ¬ no < no; omega))]
        show (_, _) = (_, _)
        rw [show max (max r.top no) no = max r.top no by omega]
      · rw [e b]
        unfold findR
        have ho : r.old.no ≠ no := by
          rcases a5 with a5 | a5
          · rw [a5.1]; show (0 : Int) ≠ no; omega
          · have := a5.2.1; omega
        rw [if_neg (by omega), if_neg (show ¬ r.cur.no = no by omega), if_neg (show ¬ r.old.no = no from ho), if_pos rfl]
      · rw [e b]
        unfold offerR
        split
        · show (1 : Int) ≠ 0; decide
        · rw [if_pos (.inr (.inr (show no - 1 < no by omega)))]
          show (9 : Int) ≠ 0; decide
      · rw [e a, e b]; rfl
def oneC (xa : Wg) (a : Rg) (no : Int) (p q : Nat) : Array Value :=
  #[.int .i64 a.cur.no, .slice xa.cur.1 a.cur.key.length xa.cur.2, .int .i64 a.old.no, .slice xa.old.1 a.old.key.length xa.old.2, .int .i64 a.pend.no, .slice xa.pend.1 a.pend.key.length xa.pend.2, .int .i64 a.left, .int .i64 a.top,
    .int .i64 no, .int .u8 (p : Nat), .int .u8 (q : Nat)]
set_option maxRecDepth 100000 in
theorem tyOne : Ty 59 11 := ⟨⟨_, Try.underlying59, rfl⟩, by kernel_rfl⟩
set_option maxRecDepth 100000 in
theorem one_a {xa : Wg} {a : Rg} {no : Int} {p q : Nat} : Part (oneC xa a no p q) 0 (ringC xa a) := fun j v h => by
  match j, h with
  | 0, h => exact h
  | 1, h => exact h
  | 2, h => exact h
  | 3, h => exact h
  | 4, h => exact h
  | 5, h => exact h
  | 6, h => exact h
  | 7, h => exact h
set_option maxRecDepth 100000 in
set_option maxHeartbeats 4000000 in
theorem ringOne_walk (xa : Wg) (r : Rg) (no : Int) (a b : UInt8) (W : World) (ha64 : Rg64 r) (hn : B64r no) (hra : RingR W xa r) :
    Calls Try.prog 6 #[.agg (oneC xa r no a.toNat b.toNat)] W fun e W' => e = .returned (.bool true) ∧ Below W.heap.size W W' := by
  have RA := Lib.hid hra
  clear hra
  obtain ⟨na, hna⟩ : ∃ n, n = a.toNat := ⟨_, rfl⟩
  obtain ⟨nb, hnb⟩ : ∃ n, n = b.toNat := ⟨_, rfl⟩
  rw [← hna, ← hnb]
  have KA := Lib.hid (fun w => (show Calls Try.prog 29 #[.int .u8 (na : Nat)] w fun e W' => (∃ y : Wk, e = .returned (.slice y.1 32 y.2) ∧ KeyR W' y (keyL a)) ∧ Below w.heap.size w W' from by rw [hna]; exact key_any a w))
  have KB := Lib.hid (fun w => (show Calls Try.prog 29 #[.int .u8 (nb : Nat)] w fun e W' => (∃ y : Wk, e = .returned (.slice y.1 32 y.2) ∧ KeyR W' y (keyL b)) ∧ Below w.heap.size w W' from by rw [hnb]; exact key_any b w))
  clear hna hnb
  have HC0 := Lib.hid (show (oneC xa r no na nb)[8]? = some (.int .i64 no) ∧ (oneC xa r no na nb)[9]? = some (.int .u8 (na : Nat)) ∧ (oneC xa r no na nb)[10]? = some (.int .u8 (nb : Nat)) from ⟨rfl, rfl, rfl⟩)
  have PA := Lib.hid (one_a (xa := xa) (a := r) (no := no) (p := na) (q := nb))
  have HFA := Lib.hid (fun w => few11_any xa r w)
  have HRA := Lib.hid (fun w => right11_any xa r w)
  have H64 := Lib.hid ha64
  have HBN := Lib.hid hn
  clear ha64 hn
  obtain ⟨CC, hCC⟩ : ∃ CC, CC = oneC xa r no na nb := ⟨_, rfl⟩
  rw [← hCC] at HC0 PA ⊢
  have HSZ := Lib.hid (show CC.size = 11 from by rw [hCC]; rfl)
  clear hCC
  obtain ⟨V0, hV, hb, hg⟩ := bx1 W 59 CC
  have HB := Lib.hid hb
  have G0 := Lib.hid hg
  have HV := Lib.hid hV
  have nRA := Lib.hid (RA.out.go hb)
  clear RA
  have RA := nRA
  clear nRA
  clear hb hg hV
  go_enter Try.func6, Try.ntmps6
  go_upto_region 1 with (fail)
  rw [← HV.out]
  clear HV
  have OG0 := G0
  have LB := Lib.hid HB.out.size
  have LTG0 := Lib.hid (show W.heap.size < V0.heap.size from Bx.lt G0.out)
  obtain ⟨V1, hV1⟩ : ∃ V, V = V0.alloc (.cells (ringC xa r) 26) := ⟨_, rfl⟩
  have ha := (Below.refl V0.heap.size V0).alloc (Nat.le_refl _) (.cells (ringC xa r) 26)
  have hg := heap_alloc_new V0 (.cells (ringC xa r) 26)
  have nHB := Lib.hid (HB.out.alloc HB.out.size (.cells (ringC xa r) 26))
  rw [← hV1] at ha hg nHB
  have nRA := Lib.hid (RA.out.go ha)
  have nG0 := Lib.hid (Bx.go G0.out ha)
  obtain ⟨g3, hg3⟩ : ∃ g, g = V0.heap.size := ⟨_, rfl⟩
  rw [← hg3] at hg
  have HXG3 := Lib.hid hg3
  have G3 := Lib.hid hg
  have HV := Lib.hid hV1
  clear ha hg hV1 hg3
  clear HB RA G0
  have HB := nHB
  have RA := nRA
  have G0 := nG0
  clear nHB nRA nG0
  have LEG3 := Lib.hid (show W.heap.size ≤ g3 from by rw [HXG3.out]; exact LB.out)
  have NEG0G3 := Lib.hid (show W.heap.size ≠ g3 from by have h1 := LTG0.out; rw [HXG3.out]; omega)
  have NEG3G0 := Lib.hid (NEG0G3.out.symm)
  clear LB LTG0
  go_upto_region 2 with (first | (refine loadPx (.tmp 18) W.heap.size 0 CC (ringC xa r) tyRing rfl PA.out OG0.out rfl rfl rfl ?_) | (refine storeX (.tmp 3) (.tmp 19) _ (ringC xa r) _ tyRing rfl (ringC_one _ _) (heap_alloc_new _ _) rfl rfl rfl rfl rfl ?_; rw [setRowG_fold]))
  rw [← HV.out]
  (try rw [← HXG3.out])
  clear HV HXG3
  clear OG0
  have x0 := Bx.cell G0.out HC0.out.1
  have x1 := Bx.cell G0.out HC0.out.2.1
  have x2 := Bx.cell G0.out HC0.out.2.2
  go_wp2_with fail
  clear x0 x1 x2
  refine (shown11_any _).mono ?_
  rintro e w2 ⟨rfl, hb⟩
  have nHB := Lib.hid (belG HB.out hb HB.out.size)
  have nRA := Lib.hid (RA.out.go hb)
  have nG0 := Lib.hid (Bx.go G0.out hb)
  have nG3 := Lib.hid (Bx.go G3.out hb)
  clear hb
  clear HB RA G0 G3
  have HB := nHB
  have RA := nRA
  have G0 := nG0
  have G3 := nG3
  clear nHB nRA nG0 nG3
  clear G0
  go_upto_region 6 with fail
  by_cases hfa : fewR r
  case neg =>
    rw [decide_eq_false hfa] at HFA
    go_wp2_with (refine loadX (.tmp 3) g3 (ringC xa r) tyRing rfl G3.out rfl rfl rfl ?_)
    refine (HFA.out _).mono ?_
    rintro e w3 ⟨rfl, hb⟩
    have nHB := Lib.hid (belG HB.out hb HB.out.size)
    have nRA := Lib.hid (RA.out.go hb)
    have nG3 := Lib.hid (Bx.go G3.out hb)
    clear hb
    clear HB RA G3
    have HB := nHB
    have RA := nRA
    have G3 := nG3
    clear nHB nRA nG3
    go_wp2_with fail
    go_ret
    exact ⟨rfl, HB.out⟩
  rw [decide_eq_true hfa] at HFA
  by_cases hR : RightR r
  case neg =>
    rw [decide_eq_false hR] at HRA
    go_wp2_with (refine loadX (.tmp 3) g3 (ringC xa r) tyRing rfl G3.out rfl rfl rfl ?_)
    refine (HFA.out _).mono ?_
    rintro e w3 ⟨rfl, hb⟩
    have nHB := Lib.hid (belG HB.out hb HB.out.size)
    have nRA := Lib.hid (RA.out.go hb)
    have nG3 := Lib.hid (Bx.go G3.out hb)
    clear hb
    clear HB RA G3
    have HB := nHB
    have RA := nRA
    have G3 := nG3
    clear nHB nRA nG3
    go_wp2_with (refine loadX (.tmp 3) g3 (ringC xa r) tyRing rfl G3.out rfl rfl rfl ?_)
    refine (HRA.out _).mono ?_
    rintro e w4 ⟨rfl, hb⟩
    have nHB := Lib.hid (belG HB.out hb HB.out.size)
    have nRA := Lib.hid (RA.out.go hb)
    have nG3 := Lib.hid (Bx.go G3.out hb)
    clear hb
    clear HB RA G3
    have HB := nHB
    have RA := nRA
    have G3 := nG3
    clear nHB nRA nG3
    go_wp2_with fail
    go_ret
    exact ⟨rfl, HB.out⟩
  rw [decide_eq_true hR] at HRA
  go_wp2_with (refine loadX (.tmp 3) g3 (ringC xa r) tyRing rfl G3.out rfl rfl rfl ?_)
  refine (HFA.out _).mono ?_
  rintro e w3 ⟨rfl, hb⟩
  have nHB := Lib.hid (belG HB.out hb HB.out.size)
  have nRA := Lib.hid (RA.out.go hb)
  have nG3 := Lib.hid (Bx.go G3.out hb)
  clear hb
  clear HB RA G3
  have HB := nHB
  have RA := nRA
  have G3 := nG3
  clear nHB nRA nG3
  go_wp2_with (refine loadX (.tmp 3) g3 (ringC xa r) tyRing rfl G3.out rfl rfl rfl ?_)
  refine (HRA.out _).mono ?_
  rintro e w4 ⟨rfl, hb⟩
  have nHB := Lib.hid (belG HB.out hb HB.out.size)
  have nRA := Lib.hid (RA.out.go hb)
  have nG3 := Lib.hid (Bx.go G3.out hb)
  clear hb
  clear HB RA G3
  have HB := nHB
  have RA := nRA
  have G3 := nG3
  clear nHB nRA nG3
  go_upto_region 8 with fail
  have CA := Lib.hid (fun w y h k => offer_any xa r no a y w hR H64.out HBN.out h k)
  have CB := Lib.hid (fun w y h k => offer_any xa r no b y w hR H64.out HBN.out h k)
  have hX := offer_right hR no (keyL a)
  have CC2 := Lib.hid (fun x w y h k => offer_any x (offerR r no (keyL a)).1 no b y w hX (right_64 hX) HBN.out h k)
  have hZ := offer_right hR no (keyL b)
  have hY := offer_right hX no (keyL b)
  have HXK := Lib.hid hX.k
  have HRK := Lib.hid hR.k
  have CF := Lib.hid (fun x w h => rFind_any x (offerR r no (keyL b)).1 no w hZ (right_64 hZ) h HBN.out)
  have HBM := Lib.hid (show 1 ≤ no ∧ no ≤ 2147483647 → B64r (no - 1) from fun h => by unfold B64r; omega)
  have CD := Lib.hid (fun (h0 : 1 ≤ no ∧ no ≤ 2147483647) x w y h k => offer_any x (offerR r no (keyL b)).1 (no - 1) a y w hZ (right_64 hZ) (HBM.out h0) h k)
  have CW := Lib.hid (fun x w h => rWithdraw_any x (offerR r no (keyL b)).1 w hZ (right_64 hZ) h)
  have CV := Lib.hid (fun x w h => rWithdraw_any x (offerR r no (keyL a)).1 w hX (right_64 hX) h)
  have CS := Lib.hid (fun (x y : Wg) (r : Rg) w (h : RingR w x r) (h2 : RingR w y r) => (show Calls Try.prog 13 #[.agg (ringC x r), .agg (ringC y r)] w fun e W' => e = .returned (.bool true) ∧ Below w.heap.size w W' from by have h3 := same11_any x y r r w h h2; rw [decide_eq_true rfl] at h3; exact h3))
  have CT := Lib.hid (fun (p q : Wk) w (h : KeyR w p (keyL b)) (h2 : KeyR w q (keyL b)) => (show Calls Try.prog 20 #[.slice p.1 32 p.2, .slice q.1 32 q.2] w fun e W' => e = .returned (.bool true) ∧ w = W' from ex11_s b p q w h h2))
  have HCA := Lib.hid (offer_cases (no := no) a b hR)
  have h0c := (show (ringC xa r)[0]? = some (.int .i64 r.cur.no) from rfl)
  obtain ⟨cn, hcn⟩ : ∃ n, n = r.cur.no := ⟨_, rfl⟩
  rw [← hcn] at h0c HCA
  have HCN := Lib.hid h0c
  unfold AnsR1 at CW CV
  unfold AnsFi at CF
  generalize hP : offerR r no (keyL a) = P at *
  generalize hZZ : offerR r no (keyL b) = Q at *
  obtain ⟨X, e⟩ := P
  obtain ⟨Z, g⟩ := Q
  simp only at CA CB CC2 CF CD CW CV HCA
  generalize offerR X no (keyL b) = P2 at *
  obtain ⟨Y, f⟩ := P2
  simp only at CC2 HCA
  clear hP hZZ hX hZ hY hcn h0c
  go_cut [8, 9] (fun tp te wx => AnsOf w4 wx tp te X e)
  case first =>
    have BB0 := Lib.hid ((Below.refl w4.heap.size w4).drew)
    have KEEP := Lib.hid (fun w' (hW : Below w4.heap.size w4 w') => (show Below w4.heap.size w4 w' from hW))
    refine wp_region_noPanic ?_
    refine wp_region_held_drew (S := fun w' => Below w4.heap.size w4 w') (by kernel_rfl) (KEEP.out _ BB0.out) (fun hHeld => ?_)
    obtain ⟨wz0, hwz⟩ : ∃ x, x = w4.drew := ⟨_, rfl⟩
    rw [← hwz] at BB0 hHeld ⊢
    clear hwz
    refine wpAnyH_take (i := 0) (oi := ?_) (v := .agg (ringC xa r)) ?_ (by kernel_rfl) (by decide +kernel) (by decide +kernel) (fun _ _ _ h => h) ?_ (by assumption) ?_
    rotate_left 1
    focus (simp only [List.getElem?_toArray, List.getElem?_cons_zero] <;> rfl)
    · refine yieldsX (T := 26) ?_ (.tmp 3) ?_ ⟨g3, 0, none⟩ ?_ (ringC xa r) ?_
      focus rfl
      focus exact rfl
      focus exact rfl
      exact fun w hSw => run_loadX tyRing rfl (Bx.go G3.out hSw)
    (try simp only [Act.put, List.setIfInBounds_toArray, List.set_cons_zero, List.set_cons_succ])
    refine wpAnyH_take (i := 1) (oi := ?_) (v := ?_) ?_ (by kernel_rfl) (by decide +kernel) (by decide +kernel) (fun _ _ _ h => h) ?_ (by assumption) ?_
    rotate_left 2
    focus (simp only [List.getElem?_toArray, List.getElem?_cons_succ, List.getElem?_cons_zero] <;> rfl)
    · refine Or.inl ⟨by rfl, ?_⟩
      intro w hSw
      (try dsimp only at hSw)
      go_simp <;> with_reducible rfl
    (try simp only [Act.put, List.setIfInBounds_toArray, List.set_cons_zero, List.set_cons_succ])
    refine wpAnyH_take (i := 2) (oi := ?_) (v := ?_) ?_ (by kernel_rfl) (by decide +kernel) (by decide +kernel) (fun _ _ _ h => h) ?_ (by assumption) ?_
    rotate_left 2
    focus (simp only [List.getElem?_toArray, List.getElem?_cons_succ, List.getElem?_cons_zero] <;> rfl)
    · refine Or.inl ⟨by rfl, ?_⟩
      intro w hSw
      (try dsimp only at hSw)
      go_simp <;> with_reducible rfl
    (try simp only [Act.put, List.setIfInBounds_toArray, List.set_cons_zero, List.set_cons_succ])
    refine wpAnyH_ready (rs := [3, 8]) (by decide +kernel) (by simp) ?_
    refine AllReadyH.cons rfl (fun K hK => ?_) ?_
    · go_simp
      go_at_call 29
      refine (KA.out _).mono ?_
      rintro e wz1 ⟨⟨yk, rfl, hk⟩, hb⟩
      have BB1 := Lib.hid (belG BB0.out hb BB0.out.size)
      have KY_1 := Lib.hid hk
      clear hk
      clear hb
      refine hK.out _ _ (KEEP.out _ BB1.out) (fun hHeld => ?_)
      clear hK K
      (try simp only [Act.put, List.setIfInBounds_toArray, List.set_cons_zero, List.set_cons_succ])
      refine wpAnyH_ready (rs := [4, 8]) (by decide +kernel) (by simp) ?_
      refine AllReadyH.cons rfl (fun K hK => ?_) ?_
      · go_simp
        go_at_call 21
        refine (CA.out _ yk (RA.out.go BB1.out) KY_1.out).mono ?_
        rintro e wz2 ⟨⟨z, rfl, hz⟩, hb⟩
        have BB2 := Lib.hid (belG BB1.out hb BB1.out.size)
        have KY_2 := Lib.hid (KY_1.out.go hb)
        have RZ_2 := Lib.hid hz
        clear hz
        clear hb
        refine hK.out _ _ (KEEP.out _ BB2.out) (fun hHeld => ?_)
        clear hK K
        (try simp only [Act.put, List.setIfInBounds_toArray, List.set_cons_zero, List.set_cons_succ])
        refine wpAnyH_take (i := 5) (oi := ?_) (v := ?_) ?_ (by kernel_rfl) (by decide +kernel) (by decide +kernel) (fun _ _ _ h => h) ?_ (by assumption) ?_
        rotate_left 2
        focus (simp only [List.getElem?_toArray, List.getElem?_cons_succ, List.getElem?_cons_zero] <;> rfl)
        · refine Or.inl ⟨by rfl, ?_⟩
          intro w hSw
          (try dsimp only at hSw)
          go_simp <;> with_reducible rfl
        (try simp only [Act.put, List.setIfInBounds_toArray, List.set_cons_zero, List.set_cons_succ])
        refine wpAnyH_take (i := 6) (oi := ?_) (v := ?_) ?_ (by kernel_rfl) (by decide +kernel) (by decide +kernel) (fun _ _ _ h => h) ?_ (by assumption) ?_
        rotate_left 2
        focus (simp only [List.getElem?_toArray, List.getElem?_cons_succ, List.getElem?_cons_zero] <;> rfl)
        · refine Or.inl ⟨by rfl, ?_⟩
          intro w hSw
          (try dsimp only at hSw)
          go_simp <;> with_reducible rfl
        (try simp only [Act.put, List.setIfInBounds_toArray, List.set_cons_zero, List.set_cons_succ])
        refine wpAnyH_take (i := 7) (oi := ?_) (v := ?_) ?_ (by kernel_rfl) (by decide +kernel) (by decide +kernel) (fun _ _ _ h => h) ?_ (by assumption) ?_
        rotate_left 2
        focus (simp only [List.getElem?_toArray, List.getElem?_cons_succ, List.getElem?_cons_zero] <;> rfl)
        · refine Or.inl ⟨by rfl, ?_⟩
          intro w hSw
          (try dsimp only at hSw)
          go_simp <;> with_reducible rfl
        (try simp only [Act.put, List.setIfInBounds_toArray, List.set_cons_zero, List.set_cons_succ])
        refine wpAnyH_ready (rs := [8]) (by decide +kernel) (by simp) ?_
        refine AllReadyH.cons rfl (fun K hK => ?_) AllReadyH.nil
        go_simp
        obtain ⟨wz3, hwz⟩ : ∃ x, x = wz2.alloc (.cells #[.int .i64 0, .slice none 0 0, .int .i64 0, .slice none 0 0, .int .i64 0, .slice none 0 0, .int .i64 0, .int .i64 0] 26) := ⟨_, rfl⟩
        have hb : Below wz2.heap.size wz2 wz3 := by rw [hwz]; exact (Below.refl wz2.heap.size wz2).alloc (Nat.le_refl _) _
        have hx : Bx wz3 wz2.heap.size 26 (ringC wg0 rg0) := by rw [hwz]; exact Bx.new _ _ _
        have BB3 := Lib.hid (belG BB2.out hb BB2.out.size)
        rw [← hwz]
        obtain ⟨ga3, hga⟩ : ∃ g, g = wz2.heap.size := ⟨_, rfl⟩
        rw [← hga] at hx
        (try rw [← hga])
        have HN_3 := Lib.hid hx
        have LEga3 := Lib.hid (show w4.heap.size ≤ ga3 from by rw [hga]; exact BB2.out.size)
        have KY_3 := Lib.hid (KY_2.out.go hb)
        have RZ_3 := Lib.hid (RZ_2.out.go hb)
        clear hb hx hwz hga
        refine hK.out _ _ (KEEP.out _ BB3.out) (fun hHeld => ?_)
        clear hK K
        (try simp only [Act.put, List.setIfInBounds_toArray, List.set_cons_zero, List.set_cons_succ])
        refine wpAnyH_ready (rs := [9]) (by decide +kernel) (by simp) ?_
        refine AllReadyH.cons rfl (fun K hK => ?_) AllReadyH.nil
        rw [if_pos (by rfl)]
        refine wp_storeX (.tmp 8) (.tmp 42) ga3 (ringC z X) _ tyRing rfl (ringC_one _ _) HN_3.out rfl rfl rfl rfl ?_
        (try simp only [Act.put, List.setIfInBounds_toArray])
        obtain ⟨wz4, hwz⟩ : ∃ x, x = wz3.setRow ga3 (ringC z X) := ⟨_, rfl⟩
        have BB4 := Lib.hid (show Below w4.heap.size w4 wz4 from by rw [hwz]; exact Below.setRowG BB3.out LEga3.out _)
        have HN_4 := Lib.hid (show Bx wz4 ga3 _ (ringC z X) from by rw [hwz]; exact Bx.setRow HN_3.out _)
        have hq := KY_3.out.setRow (C' := (ringC z X)) HN_3.out (no8_ring _ _)
        rw [← hwz] at hq
        have KY_4 := Lib.hid hq
        clear hq
        have hq := RZ_3.out.setRow (C' := (ringC z X)) HN_3.out (no8_ring _ _)
        rw [← hwz] at hq
        have RZ_4 := Lib.hid hq
        clear hq
        rw [← hwz]
        clear hwz
        refine hK.out _ _ (KEEP.out _ BB4.out) (fun hHeld => ?_)
        clear hK K
        (try simp only [Act.put, List.setIfInBounds_toArray, List.set_cons_zero, List.set_cons_succ])
        refine wpAnyH_take (i := 10) (oi := ?_) (v := ?_) ?_ (by kernel_rfl) (by decide +kernel) (by decide +kernel) (fun _ _ _ h => h) ?_ (by assumption) ?_
        rotate_left 2
        focus (simp only [List.getElem?_toArray, List.getElem?_cons_succ, List.getElem?_cons_zero] <;> rfl)
        · refine Or.inl ⟨by rfl, ?_⟩
          intro w hSw
          (try dsimp only at hSw)
          go_simp <;> with_reducible rfl
        (try simp only [Act.put])
        refine wpAnyH_done (by decide +kernel) ?_ _
        refine NoPanic.normal ?_
        clear KEEP
        go_wp2_with fail
        go_meet
        case rel => exact ⟨rfl, ga3, z, rfl, HN_4.out, RZ_4.out, BB4.out, LEga3.out⟩
      refine AllReadyH.cons rfl (fun K hK => ?_) AllReadyH.nil
      go_simp
      obtain ⟨wz5, hwz⟩ : ∃ x, x = wz1.alloc (.cells #[.int .i64 0, .slice none 0 0, .int .i64 0, .slice none 0 0, .int .i64 0, .slice none 0 0, .int .i64 0, .int .i64 0] 26) := ⟨_, rfl⟩
      have hb : Below wz1.heap.size wz1 wz5 := by rw [hwz]; exact (Below.refl wz1.heap.size wz1).alloc (Nat.le_refl _) _
      have hx : Bx wz5 wz1.heap.size 26 (ringC wg0 rg0) := by rw [hwz]; exact Bx.new _ _ _
      have BB5 := Lib.hid (belG BB1.out hb BB1.out.size)
      rw [← hwz]
      obtain ⟨ga5, hga⟩ : ∃ g, g = wz1.heap.size := ⟨_, rfl⟩
      rw [← hga] at hx
      (try rw [← hga])
      have HN_5 := Lib.hid hx
      have LEga5 := Lib.hid (show w4.heap.size ≤ ga5 from by rw [hga]; exact BB1.out.size)
      have KY_5 := Lib.hid (KY_1.out.go hb)
      clear hb hx hwz hga
      refine hK.out _ _ (KEEP.out _ BB5.out) (fun hHeld => ?_)
      clear hK K
      (try simp only [Act.put, List.setIfInBounds_toArray, List.set_cons_zero, List.set_cons_succ])
      refine wpAnyH_ready (rs := [4]) (by decide +kernel) (by simp) ?_
      refine AllReadyH.cons rfl (fun K hK => ?_) AllReadyH.nil
      go_simp
      go_at_call 21
      refine (CA.out _ yk (RA.out.go BB5.out) KY_5.out).mono ?_
      rintro e wz6 ⟨⟨z, rfl, hz⟩, hb⟩
      have BB6 := Lib.hid (belG BB5.out hb BB5.out.size)
      have KY_6 := Lib.hid (KY_5.out.go hb)
      have HN_6 := Lib.hid (Bx.go HN_5.out hb)
      have RZ_6 := Lib.hid hz
      clear hz
      clear hb
      refine hK.out _ _ (KEEP.out _ BB6.out) (fun hHeld => ?_)
      clear hK K
      (try simp only [Act.put, List.setIfInBounds_toArray, List.set_cons_zero, List.set_cons_succ])
      refine wpAnyH_take (i := 5) (oi := ?_) (v := ?_) ?_ (by kernel_rfl) (by decide +kernel) (by decide +kernel) (fun _ _ _ h => h) ?_ (by assumption) ?_
      rotate_left 2
      focus (simp only [List.getElem?_toArray, List.getElem?_cons_succ, List.getElem?_cons_zero] <;> rfl)
      · refine Or.inl ⟨by rfl, ?_⟩
        intro w hSw
        (try dsimp only at hSw)
        go_simp <;> with_reducible rfl
      (try simp only [Act.put, List.setIfInBounds_toArray, List.set_cons_zero, List.set_cons_succ])
      refine wpAnyH_take (i := 6) (oi := ?_) (v := ?_) ?_ (by kernel_rfl) (by decide +kernel) (by decide +kernel) (fun _ _ _ h => h) ?_ (by assumption) ?_
      rotate_left 2
      focus (simp only [List.getElem?_toArray, List.getElem?_cons_succ, List.getElem?_cons_zero] <;> rfl)
      · refine Or.inl ⟨by rfl, ?_⟩
        intro w hSw
        (try dsimp only at hSw)
        go_simp <;> with_reducible rfl
      (try simp only [Act.put, List.setIfInBounds_toArray, List.set_cons_zero, List.set_cons_succ])
      refine wpAnyH_take (i := 7) (oi := ?_) (v := ?_) ?_ (by kernel_rfl) (by decide +kernel) (by decide +kernel) (fun _ _ _ h => h) ?_ (by assumption) ?_
      rotate_left 2
      focus (simp only [List.getElem?_toArray, List.getElem?_cons_succ, List.getElem?_cons_zero] <;> rfl)
      · refine Or.inl ⟨by rfl, ?_⟩
        intro w hSw
        (try dsimp only at hSw)
        go_simp <;> with_reducible rfl
      (try simp only [Act.put, List.setIfInBounds_toArray, List.set_cons_zero, List.set_cons_succ])
      refine wpAnyH_ready (rs := [9]) (by decide +kernel) (by simp) ?_
      refine AllReadyH.cons rfl (fun K hK => ?_) AllReadyH.nil
      rw [if_pos (by rfl)]
      refine wp_storeX (.tmp 8) (.tmp 42) ga5 (ringC z X) _ tyRing rfl (ringC_one _ _) HN_6.out rfl rfl rfl rfl ?_
      (try simp only [Act.put, List.setIfInBounds_toArray])
      obtain ⟨wz7, hwz⟩ : ∃ x, x = wz6.setRow ga5 (ringC z X) := ⟨_, rfl⟩
      have BB7 := Lib.hid (show Below w4.heap.size w4 wz7 from by rw [hwz]; exact Below.setRowG BB6.out LEga5.out _)
      have HN_7 := Lib.hid (show Bx wz7 ga5 _ (ringC z X) from by rw [hwz]; exact Bx.setRow HN_6.out _)
      have hq := KY_6.out.setRow (C' := (ringC z X)) HN_6.out (no8_ring _ _)
      rw [← hwz] at hq
      have KY_7 := Lib.hid hq
      clear hq
      have hq := RZ_6.out.setRow (C' := (ringC z X)) HN_6.out (no8_ring _ _)
      rw [← hwz] at hq
      have RZ_7 := Lib.hid hq
      clear hq
      rw [← hwz]
      clear hwz
      refine hK.out _ _ (KEEP.out _ BB7.out) (fun hHeld => ?_)
      clear hK K
      (try simp only [Act.put, List.setIfInBounds_toArray, List.set_cons_zero, List.set_cons_succ])
      refine wpAnyH_take (i := 10) (oi := ?_) (v := ?_) ?_ (by kernel_rfl) (by decide +kernel) (by decide +kernel) (fun _ _ _ h => h) ?_ (by assumption) ?_
      rotate_left 2
      focus (simp only [List.getElem?_toArray, List.getElem?_cons_succ, List.getElem?_cons_zero] <;> rfl)
      · refine Or.inl ⟨by rfl, ?_⟩
        intro w hSw
        (try dsimp only at hSw)
        go_simp <;> with_reducible rfl
      (try simp only [Act.put])
      refine wpAnyH_done (by decide +kernel) ?_ _
      refine NoPanic.normal ?_
      clear KEEP
      go_wp2_with fail
      go_meet
      case rel => exact ⟨rfl, ga5, z, rfl, HN_7.out, RZ_7.out, BB7.out, LEga5.out⟩
    refine AllReadyH.cons rfl (fun K hK => ?_) AllReadyH.nil
    go_simp
    obtain ⟨wz8, hwz⟩ : ∃ x, x = wz0.alloc (.cells #[.int .i64 0, .slice none 0 0, .int .i64 0, .slice none 0 0, .int .i64 0, .slice none 0 0, .int .i64 0, .int .i64 0] 26) := ⟨_, rfl⟩
    have hb : Below wz0.heap.size wz0 wz8 := by rw [hwz]; exact (Below.refl wz0.heap.size wz0).alloc (Nat.le_refl _) _
    have hx : Bx wz8 wz0.heap.size 26 (ringC wg0 rg0) := by rw [hwz]; exact Bx.new _ _ _
    have BB8 := Lib.hid (belG BB0.out hb BB0.out.size)
    rw [← hwz]
    obtain ⟨ga8, hga⟩ : ∃ g, g = wz0.heap.size := ⟨_, rfl⟩
    rw [← hga] at hx
    (try rw [← hga])
    have HN_8 := Lib.hid hx
    have LEga8 := Lib.hid (show w4.heap.size ≤ ga8 from by rw [hga]; exact BB0.out.size)
    clear hb hx hwz hga
    refine hK.out _ _ (KEEP.out _ BB8.out) (fun hHeld => ?_)
    clear hK K
    (try simp only [Act.put, List.setIfInBounds_toArray, List.set_cons_zero, List.set_cons_succ])
    refine wpAnyH_ready (rs := [3]) (by decide +kernel) (by simp) ?_
    refine AllReadyH.cons rfl (fun K hK => ?_) AllReadyH.nil
    go_simp
    go_at_call 29
    refine (KA.out _).mono ?_
    rintro e wz9 ⟨⟨yk, rfl, hk⟩, hb⟩
    have BB9 := Lib.hid (belG BB8.out hb BB8.out.size)
    have HN_9 := Lib.hid (Bx.go HN_8.out hb)
    have KY_9 := Lib.hid hk
    clear hk
    clear hb
    refine hK.out _ _ (KEEP.out _ BB9.out) (fun hHeld => ?_)
    clear hK K
    (try simp only [Act.put, List.setIfInBounds_toArray, List.set_cons_zero, List.set_cons_succ])
    refine wpAnyH_ready (rs := [4]) (by decide +kernel) (by simp) ?_
    refine AllReadyH.cons rfl (fun K hK => ?_) AllReadyH.nil
    go_simp
    go_at_call 21
    refine (CA.out _ yk (RA.out.go BB9.out) KY_9.out).mono ?_
    rintro e wz10 ⟨⟨z, rfl, hz⟩, hb⟩
    have BB10 := Lib.hid (belG BB9.out hb BB9.out.size)
    have KY_10 := Lib.hid (KY_9.out.go hb)
    have HN_10 := Lib.hid (Bx.go HN_9.out hb)
    have RZ_10 := Lib.hid hz
    clear hz
    clear hb
    refine hK.out _ _ (KEEP.out _ BB10.out) (fun hHeld => ?_)
    clear hK K
    (try simp only [Act.put, List.setIfInBounds_toArray, List.set_cons_zero, List.set_cons_succ])
    refine wpAnyH_take (i := 5) (oi := ?_) (v := ?_) ?_ (by kernel_rfl) (by decide +kernel) (by decide +kernel) (fun _ _ _ h => h) ?_ (by assumption) ?_
    rotate_left 2
    focus (simp only [List.getElem?_toArray, List.getElem?_cons_succ, List.getElem?_cons_zero] <;> rfl)
    · refine Or.inl ⟨by rfl, ?_⟩
      intro w hSw
      (try dsimp only at hSw)
      go_simp <;> with_reducible rfl
    (try simp only [Act.put, List.setIfInBounds_toArray, List.set_cons_zero, List.set_cons_succ])
    refine wpAnyH_take (i := 6) (oi := ?_) (v := ?_) ?_ (by kernel_rfl) (by decide +kernel) (by decide +kernel) (fun _ _ _ h => h) ?_ (by assumption) ?_
    rotate_left 2
    focus (simp only [List.getElem?_toArray, List.getElem?_cons_succ, List.getElem?_cons_zero] <;> rfl)
    · refine Or.inl ⟨by rfl, ?_⟩
      intro w hSw
      (try dsimp only at hSw)
      go_simp <;> with_reducible rfl
    (try simp only [Act.put, List.setIfInBounds_toArray, List.set_cons_zero, List.set_cons_succ])
    refine wpAnyH_take (i := 7) (oi := ?_) (v := ?_) ?_ (by kernel_rfl) (by decide +kernel) (by decide +kernel) (fun _ _ _ h => h) ?_ (by assumption) ?_
    rotate_left 2
    focus (simp only [List.getElem?_toArray, List.getElem?_cons_succ, List.getElem?_cons_zero] <;> rfl)
    · refine Or.inl ⟨by rfl, ?_⟩
      intro w hSw
      (try dsimp only at hSw)
      go_simp <;> with_reducible rfl
    (try simp only [Act.put, List.setIfInBounds_toArray, List.set_cons_zero, List.set_cons_succ])
    refine wpAnyH_ready (rs := [9]) (by decide +kernel) (by simp) ?_
    refine AllReadyH.cons rfl (fun K hK => ?_) AllReadyH.nil
    rw [if_pos (by rfl)]
    refine wp_storeX (.tmp 8) (.tmp 42) ga8 (ringC z X) _ tyRing rfl (ringC_one _ _) HN_10.out rfl rfl rfl rfl ?_
    (try simp only [Act.put, List.setIfInBounds_toArray])
    obtain ⟨wz11, hwz⟩ : ∃ x, x = wz10.setRow ga8 (ringC z X) := ⟨_, rfl⟩
    have BB11 := Lib.hid (show Below w4.heap.size w4 wz11 from by rw [hwz]; exact Below.setRowG BB10.out LEga8.out _)
    have HN_11 := Lib.hid (show Bx wz11 ga8 _ (ringC z X) from by rw [hwz]; exact Bx.setRow HN_10.out _)
    have hq := KY_10.out.setRow (C' := (ringC z X)) HN_10.out (no8_ring _ _)
    rw [← hwz] at hq
    have KY_11 := Lib.hid hq
    clear hq
    have hq := RZ_10.out.setRow (C' := (ringC z X)) HN_10.out (no8_ring _ _)
    rw [← hwz] at hq
    have RZ_11 := Lib.hid hq
    clear hq
    rw [← hwz]
    clear hwz
    refine hK.out _ _ (KEEP.out _ BB11.out) (fun hHeld => ?_)
    clear hK K
    (try simp only [Act.put, List.setIfInBounds_toArray, List.set_cons_zero, List.set_cons_succ])
    refine wpAnyH_take (i := 10) (oi := ?_) (v := ?_) ?_ (by kernel_rfl) (by decide +kernel) (by decide +kernel) (fun _ _ _ h => h) ?_ (by assumption) ?_
    rotate_left 2
    focus (simp only [List.getElem?_toArray, List.getElem?_cons_succ, List.getElem?_cons_zero] <;> rfl)
    · refine Or.inl ⟨by rfl, ?_⟩
      intro w hSw
      (try dsimp only at hSw)
      go_simp <;> with_reducible rfl
    (try simp only [Act.put])
    refine wpAnyH_done (by decide +kernel) ?_ _
    refine NoPanic.normal ?_
    clear KEEP
    go_wp2_with fail
    go_meet
    case rel => exact ⟨rfl, ga8, z, rfl, HN_11.out, RZ_11.out, BB11.out, LEga8.out⟩
  case rest =>
  obtain ⟨rfl, g8, z5, rfl, hg, hr, hb, hge⟩ := hcut
  obtain ⟨w5, hw⟩ : ∃ x, x = wc := ⟨_, rfl⟩
  rw [← hw] at hg hr hb ⊢
  clear hw
  have nHB := Lib.hid (belG HB.out hb HB.out.size)
  have NEG3G8 := Lib.hid (show g3 ≠ g8 from by have h1 := Bx.lt G3.out; omega)
  have NEG8G3 := Lib.hid (NEG3G8.out.symm)
  have LEG8 := Lib.hid (show W.heap.size ≤ g8 from by have h1 := HB.out.size; omega)
  have nRA := Lib.hid (RA.out.go hb)
  have nG3 := Lib.hid (Bx.go G3.out hb)
  have G8 := Lib.hid hg
  have RG8 := Lib.hid hr
  clear hb hg hr hge
  clear HB RA G3
  have HB := nHB
  have RA := nRA
  have G3 := nG3
  clear nHB nRA nG3
  have CE := Lib.hid (fun w y h k => CC2.out z5 w y h k)
  go_upto_region 9 with fail
  go_cut [10, 11] (fun tp te wx => AnsOf w5 wx tp te Y f)
  case first =>
    have BB0 := Lib.hid ((Below.refl w5.heap.size w5).drew)
    have KEEP := Lib.hid (fun w' (hW : Below w5.heap.size w5 w') => (show Below w5.heap.size w5 w' from hW))
    refine wp_region_noPanic ?_
    refine wp_region_held_drew (S := fun w' => Below w5.heap.size w5 w') (by kernel_rfl) (KEEP.out _ BB0.out) (fun hHeld => ?_)
    obtain ⟨wz0, hwz⟩ : ∃ x, x = w5.drew := ⟨_, rfl⟩
    rw [← hwz] at BB0 hHeld ⊢
    clear hwz
    refine wpAnyH_take (i := 0) (oi := ?_) (v := .agg (ringC z5 X)) ?_ (by kernel_rfl) (by decide +kernel) (by decide +kernel) (fun _ _ _ h => h) ?_ (by assumption) ?_
    rotate_left 1
    focus (simp only [List.getElem?_toArray, List.getElem?_cons_zero] <;> rfl)
    · refine yieldsX (T := 26) ?_ (.tmp 8) ?_ ⟨g8, 0, none⟩ ?_ (ringC z5 X) ?_
      focus rfl
      focus exact rfl
      focus exact rfl
      exact fun w hSw => run_loadX tyRing rfl (Bx.go G8.out hSw)
    (try simp only [Act.put, List.setIfInBounds_toArray, List.set_cons_zero, List.set_cons_succ])
    refine wpAnyH_take (i := 1) (oi := ?_) (v := ?_) ?_ (by kernel_rfl) (by decide +kernel) (by decide +kernel) (fun _ _ _ h => h) ?_ (by assumption) ?_
    rotate_left 2
    focus (simp only [List.getElem?_toArray, List.getElem?_cons_succ, List.getElem?_cons_zero] <;> rfl)
    · refine Or.inl ⟨by rfl, ?_⟩
      intro w hSw
      (try dsimp only at hSw)
      go_simp <;> with_reducible rfl
    (try simp only [Act.put, List.setIfInBounds_toArray, List.set_cons_zero, List.set_cons_succ])
    refine wpAnyH_take (i := 2) (oi := ?_) (v := ?_) ?_ (by kernel_rfl) (by decide +kernel) (by decide +kernel) (fun _ _ _ h => h) ?_ (by assumption) ?_
    rotate_left 2
    focus (simp only [List.getElem?_toArray, List.getElem?_cons_succ, List.getElem?_cons_zero] <;> rfl)
    · refine Or.inl ⟨by rfl, ?_⟩
      intro w hSw
      (try dsimp only at hSw)
      go_simp <;> with_reducible rfl
    (try simp only [Act.put, List.setIfInBounds_toArray, List.set_cons_zero, List.set_cons_succ])
    refine wpAnyH_ready (rs := [3, 8]) (by decide +kernel) (by simp) ?_
    refine AllReadyH.cons rfl (fun K hK => ?_) ?_
    · go_simp
      go_at_call 29
      refine (KB.out _).mono ?_
      rintro e wz1 ⟨⟨yk, rfl, hk⟩, hb⟩
      have BB1 := Lib.hid (belG BB0.out hb BB0.out.size)
      have KY_1 := Lib.hid hk
      clear hk
      clear hb
      refine hK.out _ _ (KEEP.out _ BB1.out) (fun hHeld => ?_)
      clear hK K
      (try simp only [Act.put, List.setIfInBounds_toArray, List.set_cons_zero, List.set_cons_succ])
      refine wpAnyH_ready (rs := [4, 8]) (by decide +kernel) (by simp) ?_
      refine AllReadyH.cons rfl (fun K hK => ?_) ?_
      · go_simp
        go_at_call 21
        refine (CE.out _ yk (RG8.out.go BB1.out) KY_1.out).mono ?_
        rintro e wz2 ⟨⟨z, rfl, hz⟩, hb⟩
        have BB2 := Lib.hid (belG BB1.out hb BB1.out.size)
        have KY_2 := Lib.hid (KY_1.out.go hb)
        have RZ_2 := Lib.hid hz
        clear hz
        clear hb
        refine hK.out _ _ (KEEP.out _ BB2.out) (fun hHeld => ?_)
        clear hK K
        (try simp only [Act.put, List.setIfInBounds_toArray, List.set_cons_zero, List.set_cons_succ])
        refine wpAnyH_take (i := 5) (oi := ?_) (v := ?_) ?_ (by kernel_rfl) (by decide +kernel) (by decide +kernel) (fun _ _ _ h => h) ?_ (by assumption) ?_
        rotate_left 2
        focus (simp only [List.getElem?_toArray, List.getElem?_cons_succ, List.getElem?_cons_zero] <;> rfl)
        · refine Or.inl ⟨by rfl, ?_⟩
          intro w hSw
          (try dsimp only at hSw)
          go_simp <;> with_reducible rfl
        (try simp only [Act.put, List.setIfInBounds_toArray, List.set_cons_zero, List.set_cons_succ])
        refine wpAnyH_take (i := 6) (oi := ?_) (v := ?_) ?_ (by kernel_rfl) (by decide +kernel) (by decide +kernel) (fun _ _ _ h => h) ?_ (by assumption) ?_
        rotate_left 2
        focus (simp only [List.getElem?_toArray, List.getElem?_cons_succ, List.getElem?_cons_zero] <;> rfl)
        · refine Or.inl ⟨by rfl, ?_⟩
          intro w hSw
          (try dsimp only at hSw)
          go_simp <;> with_reducible rfl
        (try simp only [Act.put, List.setIfInBounds_toArray, List.set_cons_zero, List.set_cons_succ])
        refine wpAnyH_take (i := 7) (oi := ?_) (v := ?_) ?_ (by kernel_rfl) (by decide +kernel) (by decide +kernel) (fun _ _ _ h => h) ?_ (by assumption) ?_
        rotate_left 2
        focus (simp only [List.getElem?_toArray, List.getElem?_cons_succ, List.getElem?_cons_zero] <;> rfl)
        · refine Or.inl ⟨by rfl, ?_⟩
          intro w hSw
          (try dsimp only at hSw)
          go_simp <;> with_reducible rfl
        (try simp only [Act.put, List.setIfInBounds_toArray, List.set_cons_zero, List.set_cons_succ])
        refine wpAnyH_ready (rs := [8]) (by decide +kernel) (by simp) ?_
        refine AllReadyH.cons rfl (fun K hK => ?_) AllReadyH.nil
        go_simp
        obtain ⟨wz3, hwz⟩ : ∃ x, x = wz2.alloc (.cells #[.int .i64 0, .slice none 0 0, .int .i64 0, .slice none 0 0, .int .i64 0, .slice none 0 0, .int .i64 0, .int .i64 0] 26) := ⟨_, rfl⟩
        have hb : Below wz2.heap.size wz2 wz3 := by rw [hwz]; exact (Below.refl wz2.heap.size wz2).alloc (Nat.le_refl _) _
        have hx : Bx wz3 wz2.heap.size 26 (ringC wg0 rg0) := by rw [hwz]; exact Bx.new _ _ _
        have BB3 := Lib.hid (belG BB2.out hb BB2.out.size)
        rw [← hwz]
        obtain ⟨ga3, hga⟩ : ∃ g, g = wz2.heap.size := ⟨_, rfl⟩
        rw [← hga] at hx
        (try rw [← hga])
        have HN_3 := Lib.hid hx
        have LEga3 := Lib.hid (show w5.heap.size ≤ ga3 from by rw [hga]; exact BB2.out.size)
        have KY_3 := Lib.hid (KY_2.out.go hb)
        have RZ_3 := Lib.hid (RZ_2.out.go hb)
        clear hb hx hwz hga
        refine hK.out _ _ (KEEP.out _ BB3.out) (fun hHeld => ?_)
        clear hK K
        (try simp only [Act.put, List.setIfInBounds_toArray, List.set_cons_zero, List.set_cons_succ])
        refine wpAnyH_ready (rs := [9]) (by decide +kernel) (by simp) ?_
        refine AllReadyH.cons rfl (fun K hK => ?_) AllReadyH.nil
        rw [if_pos (by rfl)]
        refine wp_storeX (.tmp 10) (.tmp 50) ga3 (ringC z Y) _ tyRing rfl (ringC_one _ _) HN_3.out rfl rfl rfl rfl ?_
        (try simp only [Act.put, List.setIfInBounds_toArray])
        obtain ⟨wz4, hwz⟩ : ∃ x, x = wz3.setRow ga3 (ringC z Y) := ⟨_, rfl⟩
        have BB4 := Lib.hid (show Below w5.heap.size w5 wz4 from by rw [hwz]; exact Below.setRowG BB3.out LEga3.out _)
        have HN_4 := Lib.hid (show Bx wz4 ga3 _ (ringC z Y) from by rw [hwz]; exact Bx.setRow HN_3.out _)
        have hq := KY_3.out.setRow (C' := (ringC z Y)) HN_3.out (no8_ring _ _)
        rw [← hwz] at hq
        have KY_4 := Lib.hid hq
        clear hq
        have hq := RZ_3.out.setRow (C' := (ringC z Y)) HN_3.out (no8_ring _ _)
        rw [← hwz] at hq
        have RZ_4 := Lib.hid hq
        clear hq
        rw [← hwz]
        clear hwz
        refine hK.out _ _ (KEEP.out _ BB4.out) (fun hHeld => ?_)
        clear hK K
        (try simp only [Act.put, List.setIfInBounds_toArray, List.set_cons_zero, List.set_cons_succ])
        refine wpAnyH_take (i := 10) (oi := ?_) (v := ?_) ?_ (by kernel_rfl) (by decide +kernel) (by decide +kernel) (fun _ _ _ h => h) ?_ (by assumption) ?_
        rotate_left 2
        focus (simp only [List.getElem?_toArray, List.getElem?_cons_succ, List.getElem?_cons_zero] <;> rfl)
        · refine Or.inl ⟨by rfl, ?_⟩
          intro w hSw
          (try dsimp only at hSw)
          go_simp <;> with_reducible rfl
        (try simp only [Act.put])
        refine wpAnyH_done (by decide +kernel) ?_ _
        refine NoPanic.normal ?_
        clear KEEP
        go_wp2_with fail
        go_meet
        case rel => exact ⟨rfl, ga3, z, rfl, HN_4.out, RZ_4.out, BB4.out, LEga3.out⟩
      refine AllReadyH.cons rfl (fun K hK => ?_) AllReadyH.nil
      go_simp
      obtain ⟨wz5, hwz⟩ : ∃ x, x = wz1.alloc (.cells #[.int .i64 0, .slice none 0 0, .int .i64 0, .slice none 0 0, .int .i64 0, .slice none 0 0, .int .i64 0, .int .i64 0] 26) := ⟨_, rfl⟩
      have hb : Below wz1.heap.size wz1 wz5 := by rw [hwz]; exact (Below.refl wz1.heap.size wz1).alloc (Nat.le_refl _) _
      have hx : Bx wz5 wz1.heap.size 26 (ringC wg0 rg0) := by rw [hwz]; exact Bx.new _ _ _
      have BB5 := Lib.hid (belG BB1.out hb BB1.out.size)
      rw [← hwz]
      obtain ⟨ga5, hga⟩ : ∃ g, g = wz1.heap.size := ⟨_, rfl⟩
      rw [← hga] at hx
      (try rw [← hga])
      have HN_5 := Lib.hid hx
      have LEga5 := Lib.hid (show w5.heap.size ≤ ga5 from by rw [hga]; exact BB1.out.size)
      have KY_5 := Lib.hid (KY_1.out.go hb)
      clear hb hx hwz hga
      refine hK.out _ _ (KEEP.out _ BB5.out) (fun hHeld => ?_)
      clear hK K
      (try simp only [Act.put, List.setIfInBounds_toArray, List.set_cons_zero, List.set_cons_succ])
      refine wpAnyH_ready (rs := [4]) (by decide +kernel) (by simp) ?_
      refine AllReadyH.cons rfl (fun K hK => ?_) AllReadyH.nil
      go_simp
      go_at_call 21
      refine (CE.out _ yk (RG8.out.go BB5.out) KY_5.out).mono ?_
      rintro e wz6 ⟨⟨z, rfl, hz⟩, hb⟩
      have BB6 := Lib.hid (belG BB5.out hb BB5.out.size)
      have KY_6 := Lib.hid (KY_5.out.go hb)
      have HN_6 := Lib.hid (Bx.go HN_5.out hb)
      have RZ_6 := Lib.hid hz
      clear hz
      clear hb
      refine hK.out _ _ (KEEP.out _ BB6.out) (fun hHeld => ?_)
      clear hK K
      (try simp only [Act.put, List.setIfInBounds_toArray, List.set_cons_zero, List.set_cons_succ])
      refine wpAnyH_take (i := 5) (oi := ?_) (v := ?_) ?_ (by kernel_rfl) (by decide +kernel) (by decide +kernel) (fun _ _ _ h => h) ?_ (by assumption) ?_
      rotate_left 2
      focus (simp only [List.getElem?_toArray, List.getElem?_cons_succ, List.getElem?_cons_zero] <;> rfl)
      · refine Or.inl ⟨by rfl, ?_⟩
        intro w hSw
        (try dsimp only at hSw)
        go_simp <;> with_reducible rfl
      (try simp only [Act.put, List.setIfInBounds_toArray, List.set_cons_zero, List.set_cons_succ])
      refine wpAnyH_take (i := 6) (oi := ?_) (v := ?_) ?_ (by kernel_rfl) (by decide +kernel) (by decide +kernel) (fun _ _ _ h => h) ?_ (by assumption) ?_
      rotate_left 2
      focus (simp only [List.getElem?_toArray, List.getElem?_cons_succ, List.getElem?_cons_zero] <;> rfl)
      · refine Or.inl ⟨by rfl, ?_⟩
        intro w hSw
        (try dsimp only at hSw)
        go_simp <;> with_reducible rfl
      (try simp only [Act.put, List.setIfInBounds_toArray, List.set_cons_zero, List.set_cons_succ])
      refine wpAnyH_take (i := 7) (oi := ?_) (v := ?_) ?_ (by kernel_rfl) (by decide +kernel) (by decide +kernel) (fun _ _ _ h => h) ?_ (by assumption) ?_
      rotate_left 2
      focus (simp only [List.getElem?_toArray, List.getElem?_cons_succ, List.getElem?_cons_zero] <;> rfl)
      · refine Or.inl ⟨by rfl, ?_⟩
        intro w hSw
        (try dsimp only at hSw)
        go_simp <;> with_reducible rfl
      (try simp only [Act.put, List.setIfInBounds_toArray, List.set_cons_zero, List.set_cons_succ])
      refine wpAnyH_ready (rs := [9]) (by decide +kernel) (by simp) ?_
      refine AllReadyH.cons rfl (fun K hK => ?_) AllReadyH.nil
      rw [if_pos (by rfl)]
      refine wp_storeX (.tmp 10) (.tmp 50) ga5 (ringC z Y) _ tyRing rfl (ringC_one _ _) HN_6.out rfl rfl rfl rfl ?_
      (try simp only [Act.put, List.setIfInBounds_toArray])
      obtain ⟨wz7, hwz⟩ : ∃ x, x = wz6.setRow ga5 (ringC z Y) := ⟨_, rfl⟩
      have BB7 := Lib.hid (show Below w5.heap.size w5 wz7 from by rw [hwz]; exact Below.setRowG BB6.out LEga5.out _)
      have HN_7 := Lib.hid (show Bx wz7 ga5 _ (ringC z Y) from by rw [hwz]; exact Bx.setRow HN_6.out _)
      have hq := KY_6.out.setRow (C' := (ringC z Y)) HN_6.out (no8_ring _ _)
      rw [← hwz] at hq
      have KY_7 := Lib.hid hq
      clear hq
      have hq := RZ_6.out.setRow (C' := (ringC z Y)) HN_6.out (no8_ring _ _)
      rw [← hwz] at hq
      have RZ_7 := Lib.hid hq
      clear hq
      rw [← hwz]
      clear hwz
      refine hK.out _ _ (KEEP.out _ BB7.out) (fun hHeld => ?_)
      clear hK K
      (try simp only [Act.put, List.setIfInBounds_toArray, List.set_cons_zero, List.set_cons_succ])
      refine wpAnyH_take (i := 10) (oi := ?_) (v := ?_) ?_ (by kernel_rfl) (by decide +kernel) (by decide +kernel) (fun _ _ _ h => h) ?_ (by assumption) ?_
      rotate_left 2
      focus (simp only [List.getElem?_toArray, List.getElem?_cons_succ, List.getElem?_cons_zero] <;> rfl)
      · refine Or.inl ⟨by rfl, ?_⟩
        intro w hSw
        (try dsimp only at hSw)
        go_simp <;> with_reducible rfl
      (try simp only [Act.put])
      refine wpAnyH_done (by decide +kernel) ?_ _
      refine NoPanic.normal ?_
      clear KEEP
      go_wp2_with fail
      go_meet
      case rel => exact ⟨rfl, ga5, z, rfl, HN_7.out, RZ_7.out, BB7.out, LEga5.out⟩
    refine AllReadyH.cons rfl (fun K hK => ?_) AllReadyH.nil
    go_simp
    obtain ⟨wz8, hwz⟩ : ∃ x, x = wz0.alloc (.cells #[.int .i64 0, .slice none 0 0, .int .i64 0, .slice none 0 0, .int .i64 0, .slice none 0 0, .int .i64 0, .int .i64 0] 26) := ⟨_, rfl⟩
    have hb : Below wz0.heap.size wz0 wz8 := by rw [hwz]; exact (Below.refl wz0.heap.size wz0).alloc (Nat.le_refl _) _
    have hx : Bx wz8 wz0.heap.size 26 (ringC wg0 rg0) := by rw [hwz]; exact Bx.new _ _ _
    have BB8 := Lib.hid (belG BB0.out hb BB0.out.size)
    rw [← hwz]
    obtain ⟨ga8, hga⟩ : ∃ g, g = wz0.heap.size := ⟨_, rfl⟩
    rw [← hga] at hx
    (try rw [← hga])
    have HN_8 := Lib.hid hx
    have LEga8 := Lib.hid (show w5.heap.size ≤ ga8 from by rw [hga]; exact BB0.out.size)
    clear hb hx hwz hga
    refine hK.out _ _ (KEEP.out _ BB8.out) (fun hHeld => ?_)
    clear hK K
    (try simp only [Act.put, List.setIfInBounds_toArray, List.set_cons_zero, List.set_cons_succ])
    refine wpAnyH_ready (rs := [3]) (by decide +kernel) (by simp) ?_
    refine AllReadyH.cons rfl (fun K hK => ?_) AllReadyH.nil
    go_simp
    go_at_call 29
    refine (KB.out _).mono ?_
    rintro e wz9 ⟨⟨yk, rfl, hk⟩, hb⟩
    have BB9 := Lib.hid (belG BB8.out hb BB8.out.size)
    have HN_9 := Lib.hid (Bx.go HN_8.out hb)
    have KY_9 := Lib.hid hk
    clear hk
    clear hb
    refine hK.out _ _ (KEEP.out _ BB9.out) (fun hHeld => ?_)
    clear hK K
    (try simp only [Act.put, List.setIfInBounds_toArray, List.set_cons_zero, List.set_cons_succ])
    refine wpAnyH_ready (rs := [4]) (by decide +kernel) (by simp) ?_
    refine AllReadyH.cons rfl (fun K hK => ?_) AllReadyH.nil
    go_simp
    go_at_call 21
    refine (CE.out _ yk (RG8.out.go BB9.out) KY_9.out).mono ?_
    rintro e wz10 ⟨⟨z, rfl, hz⟩, hb⟩
    have BB10 := Lib.hid (belG BB9.out hb BB9.out.size)
    have KY_10 := Lib.hid (KY_9.out.go hb)
    have HN_10 := Lib.hid (Bx.go HN_9.out hb)
    have RZ_10 := Lib.hid hz
    clear hz
    clear hb
    refine hK.out _ _ (KEEP.out _ BB10.out) (fun hHeld => ?_)
    clear hK K
    (try simp only [Act.put, List.setIfInBounds_toArray, List.set_cons_zero, List.set_cons_succ])
    refine wpAnyH_take (i := 5) (oi := ?_) (v := ?_) ?_ (by kernel_rfl) (by decide +kernel) (by decide +kernel) (fun _ _ _ h => h) ?_ (by assumption) ?_
    rotate_left 2
    focus (simp only [List.getElem?_toArray, List.getElem?_cons_succ, List.getElem?_cons_zero] <;> rfl)
    · refine Or.inl ⟨by rfl, ?_⟩
      intro w hSw
      (try dsimp only at hSw)
      go_simp <;> with_reducible rfl
    (try simp only [Act.put, List.setIfInBounds_toArray, List.set_cons_zero, List.set_cons_succ])
    refine wpAnyH_take (i := 6) (oi := ?_) (v := ?_) ?_ (by kernel_rfl) (by decide +kernel) (by decide +kernel) (fun _ _ _ h => h) ?_ (by assumption) ?_
    rotate_left 2
    focus (simp only [List.getElem?_toArray, List.getElem?_cons_succ, List.getElem?_cons_zero] <;> rfl)
    · refine Or.inl ⟨by rfl, ?_⟩
      intro w hSw
      (try dsimp only at hSw)
      go_simp <;> with_reducible rfl
    (try simp only [Act.put, List.setIfInBounds_toArray, List.set_cons_zero, List.set_cons_succ])
    refine wpAnyH_take (i := 7) (oi := ?_) (v := ?_) ?_ (by kernel_rfl) (by decide +kernel) (by decide +kernel) (fun _ _ _ h => h) ?_ (by assumption) ?_
    rotate_left 2
    focus (simp only [List.getElem?_toArray, List.getElem?_cons_succ, List.getElem?_cons_zero] <;> rfl)
    · refine Or.inl ⟨by rfl, ?_⟩
      intro w hSw
      (try dsimp only at hSw)
      go_simp <;> with_reducible rfl
    (try simp only [Act.put, List.setIfInBounds_toArray, List.set_cons_zero, List.set_cons_succ])
    refine wpAnyH_ready (rs := [9]) (by decide +kernel) (by simp) ?_
    refine AllReadyH.cons rfl (fun K hK => ?_) AllReadyH.nil
    rw [if_pos (by rfl)]
    refine wp_storeX (.tmp 10) (.tmp 50) ga8 (ringC z Y) _ tyRing rfl (ringC_one _ _) HN_10.out rfl rfl rfl rfl ?_
    (try simp only [Act.put, List.setIfInBounds_toArray])
    obtain ⟨wz11, hwz⟩ : ∃ x, x = wz10.setRow ga8 (ringC z Y) := ⟨_, rfl⟩
    have BB11 := Lib.hid (show Below w5.heap.size w5 wz11 from by rw [hwz]; exact Below.setRowG BB10.out LEga8.out _)
    have HN_11 := Lib.hid (show Bx wz11 ga8 _ (ringC z Y) from by rw [hwz]; exact Bx.setRow HN_10.out _)
    have hq := KY_10.out.setRow (C' := (ringC z Y)) HN_10.out (no8_ring _ _)
    rw [← hwz] at hq
    have KY_11 := Lib.hid hq
    clear hq
    have hq := RZ_10.out.setRow (C' := (ringC z Y)) HN_10.out (no8_ring _ _)
    rw [← hwz] at hq
    have RZ_11 := Lib.hid hq
    clear hq
    rw [← hwz]
    clear hwz
    refine hK.out _ _ (KEEP.out _ BB11.out) (fun hHeld => ?_)
    clear hK K
    (try simp only [Act.put, List.setIfInBounds_toArray, List.set_cons_zero, List.set_cons_succ])
    refine wpAnyH_take (i := 10) (oi := ?_) (v := ?_) ?_ (by kernel_rfl) (by decide +kernel) (by decide +kernel) (fun _ _ _ h => h) ?_ (by assumption) ?_
    rotate_left 2
    focus (simp only [List.getElem?_toArray, List.getElem?_cons_succ, List.getElem?_cons_zero] <;> rfl)
    · refine Or.inl ⟨by rfl, ?_⟩
      intro w hSw
      (try dsimp only at hSw)
      go_simp <;> with_reducible rfl
    (try simp only [Act.put])
    refine wpAnyH_done (by decide +kernel) ?_ _
    refine NoPanic.normal ?_
    clear KEEP
    go_wp2_with fail
    go_meet
    case rel => exact ⟨rfl, ga8, z, rfl, HN_11.out, RZ_11.out, BB11.out, LEga8.out⟩
  case rest =>
  obtain ⟨rfl, g10, z6, rfl, hg, hr, hb, hge⟩ := hcut
  obtain ⟨w6, hw⟩ : ∃ x, x = wc := ⟨_, rfl⟩
  rw [← hw] at hg hr hb ⊢
  clear hw
  have nHB := Lib.hid (belG HB.out hb HB.out.size)
  have NEG3G10 := Lib.hid (show g3 ≠ g10 from by have h1 := Bx.lt G3.out; omega)
  have NEG10G3 := Lib.hid (NEG3G10.out.symm)
  have NEG8G10 := Lib.hid (show g8 ≠ g10 from by have h1 := Bx.lt G8.out; omega)
  have NEG10G8 := Lib.hid (NEG8G10.out.symm)
  have LEG10 := Lib.hid (show W.heap.size ≤ g10 from by have h1 := HB.out.size; omega)
  have nRA := Lib.hid (RA.out.go hb)
  have nRG8 := Lib.hid (RG8.out.go hb)
  have nG3 := Lib.hid (Bx.go G3.out hb)
  have nG8 := Lib.hid (Bx.go G8.out hb)
  have G10 := Lib.hid hg
  have RG10 := Lib.hid hr
  clear hb hg hr hge
  clear HB RA RG8 G3 G8
  have HB := nHB
  have RA := nRA
  have RG8 := nRG8
  have G3 := nG3
  have G8 := nG8
  clear nHB nRA nRG8 nG3 nG8
  go_upto_region 10 with fail
  go_cut [12, 13] (fun tp te wx => AnsOf w6 wx tp te Z g)
  case first =>
    have BB0 := Lib.hid ((Below.refl w6.heap.size w6).drew)
    have KEEP := Lib.hid (fun w' (hW : Below w6.heap.size w6 w') => (show Below w6.heap.size w6 w' from hW))
    refine wp_region_noPanic ?_
    refine wp_region_held_drew (S := fun w' => Below w6.heap.size w6 w') (by kernel_rfl) (KEEP.out _ BB0.out) (fun hHeld => ?_)
    obtain ⟨wz0, hwz⟩ : ∃ x, x = w6.drew := ⟨_, rfl⟩
    rw [← hwz] at BB0 hHeld ⊢
    clear hwz
    refine wpAnyH_take (i := 0) (oi := ?_) (v := .agg (ringC xa r)) ?_ (by kernel_rfl) (by decide +kernel) (by decide +kernel) (fun _ _ _ h => h) ?_ (by assumption) ?_
    rotate_left 1
    focus (simp only [List.getElem?_toArray, List.getElem?_cons_zero] <;> rfl)
    · refine yieldsX (T := 26) ?_ (.tmp 3) ?_ ⟨g3, 0, none⟩ ?_ (ringC xa r) ?_
      focus rfl
      focus exact rfl
      focus exact rfl
      exact fun w hSw => run_loadX tyRing rfl (Bx.go G3.out hSw)
    (try simp only [Act.put, List.setIfInBounds_toArray, List.set_cons_zero, List.set_cons_succ])
    refine wpAnyH_take (i := 1) (oi := ?_) (v := ?_) ?_ (by kernel_rfl) (by decide +kernel) (by decide +kernel) (fun _ _ _ h => h) ?_ (by assumption) ?_
    rotate_left 2
    focus (simp only [List.getElem?_toArray, List.getElem?_cons_succ, List.getElem?_cons_zero] <;> rfl)
    · refine Or.inl ⟨by rfl, ?_⟩
      intro w hSw
      (try dsimp only at hSw)
      go_simp <;> with_reducible rfl
    (try simp only [Act.put, List.setIfInBounds_toArray, List.set_cons_zero, List.set_cons_succ])
    refine wpAnyH_take (i := 2) (oi := ?_) (v := ?_) ?_ (by kernel_rfl) (by decide +kernel) (by decide +kernel) (fun _ _ _ h => h) ?_ (by assumption) ?_
    rotate_left 2
    focus (simp only [List.getElem?_toArray, List.getElem?_cons_succ, List.getElem?_cons_zero] <;> rfl)
    · refine Or.inl ⟨by rfl, ?_⟩
      intro w hSw
      (try dsimp only at hSw)
      go_simp <;> with_reducible rfl
    (try simp only [Act.put, List.setIfInBounds_toArray, List.set_cons_zero, List.set_cons_succ])
    refine wpAnyH_ready (rs := [3, 8]) (by decide +kernel) (by simp) ?_
    refine AllReadyH.cons rfl (fun K hK => ?_) ?_
    · go_simp
      go_at_call 29
      refine (KB.out _).mono ?_
      rintro e wz1 ⟨⟨yk, rfl, hk⟩, hb⟩
      have BB1 := Lib.hid (belG BB0.out hb BB0.out.size)
      have KY_1 := Lib.hid hk
      clear hk
      clear hb
      refine hK.out _ _ (KEEP.out _ BB1.out) (fun hHeld => ?_)
      clear hK K
      (try simp only [Act.put, List.setIfInBounds_toArray, List.set_cons_zero, List.set_cons_succ])
      refine wpAnyH_ready (rs := [4, 8]) (by decide +kernel) (by simp) ?_
      refine AllReadyH.cons rfl (fun K hK => ?_) ?_
      · go_simp
        go_at_call 21
        refine (CB.out _ yk (RA.out.go BB1.out) KY_1.out).mono ?_
        rintro e wz2 ⟨⟨z, rfl, hz⟩, hb⟩
        have BB2 := Lib.hid (belG BB1.out hb BB1.out.size)
        have KY_2 := Lib.hid (KY_1.out.go hb)
        have RZ_2 := Lib.hid hz
        clear hz
        clear hb
        refine hK.out _ _ (KEEP.out _ BB2.out) (fun hHeld => ?_)
        clear hK K
        (try simp only [Act.put, List.setIfInBounds_toArray, List.set_cons_zero, List.set_cons_succ])
        refine wpAnyH_take (i := 5) (oi := ?_) (v := ?_) ?_ (by kernel_rfl) (by decide +kernel) (by decide +kernel) (fun _ _ _ h => h) ?_ (by assumption) ?_
        rotate_left 2
        focus (simp only [List.getElem?_toArray, List.getElem?_cons_succ, List.getElem?_cons_zero] <;> rfl)
        · refine Or.inl ⟨by rfl, ?_⟩
          intro w hSw
          (try dsimp only at hSw)
          go_simp <;> with_reducible rfl
        (try simp only [Act.put, List.setIfInBounds_toArray, List.set_cons_zero, List.set_cons_succ])
        refine wpAnyH_take (i := 6) (oi := ?_) (v := ?_) ?_ (by kernel_rfl) (by decide +kernel) (by decide +kernel) (fun _ _ _ h => h) ?_ (by assumption) ?_
        rotate_left 2
        focus (simp only [List.getElem?_toArray, List.getElem?_cons_succ, List.getElem?_cons_zero] <;> rfl)
        · refine Or.inl ⟨by rfl, ?_⟩
          intro w hSw
          (try dsimp only at hSw)
          go_simp <;> with_reducible rfl
        (try simp only [Act.put, List.setIfInBounds_toArray, List.set_cons_zero, List.set_cons_succ])
        refine wpAnyH_take (i := 7) (oi := ?_) (v := ?_) ?_ (by kernel_rfl) (by decide +kernel) (by decide +kernel) (fun _ _ _ h => h) ?_ (by assumption) ?_
        rotate_left 2
        focus (simp only [List.getElem?_toArray, List.getElem?_cons_succ, List.getElem?_cons_zero] <;> rfl)
        · refine Or.inl ⟨by rfl, ?_⟩
          intro w hSw
          (try dsimp only at hSw)
          go_simp <;> with_reducible rfl
        (try simp only [Act.put, List.setIfInBounds_toArray, List.set_cons_zero, List.set_cons_succ])
        refine wpAnyH_ready (rs := [8]) (by decide +kernel) (by simp) ?_
        refine AllReadyH.cons rfl (fun K hK => ?_) AllReadyH.nil
        go_simp
        obtain ⟨wz3, hwz⟩ : ∃ x, x = wz2.alloc (.cells #[.int .i64 0, .slice none 0 0, .int .i64 0, .slice none 0 0, .int .i64 0, .slice none 0 0, .int .i64 0, .int .i64 0] 26) := ⟨_, rfl⟩
        have hb : Below wz2.heap.size wz2 wz3 := by rw [hwz]; exact (Below.refl wz2.heap.size wz2).alloc (Nat.le_refl _) _
        have hx : Bx wz3 wz2.heap.size 26 (ringC wg0 rg0) := by rw [hwz]; exact Bx.new _ _ _
        have BB3 := Lib.hid (belG BB2.out hb BB2.out.size)
        rw [← hwz]
        obtain ⟨ga3, hga⟩ : ∃ g, g = wz2.heap.size := ⟨_, rfl⟩
        rw [← hga] at hx
        (try rw [← hga])
        have HN_3 := Lib.hid hx
        have LEga3 := Lib.hid (show w6.heap.size ≤ ga3 from by rw [hga]; exact BB2.out.size)
        have KY_3 := Lib.hid (KY_2.out.go hb)
        have RZ_3 := Lib.hid (RZ_2.out.go hb)
        clear hb hx hwz hga
        refine hK.out _ _ (KEEP.out _ BB3.out) (fun hHeld => ?_)
        clear hK K
        (try simp only [Act.put, List.setIfInBounds_toArray, List.set_cons_zero, List.set_cons_succ])
        refine wpAnyH_ready (rs := [9]) (by decide +kernel) (by simp) ?_
        refine AllReadyH.cons rfl (fun K hK => ?_) AllReadyH.nil
        rw [if_pos (by rfl)]
        refine wp_storeX (.tmp 12) (.tmp 58) ga3 (ringC z Z) _ tyRing rfl (ringC_one _ _) HN_3.out rfl rfl rfl rfl ?_
        (try simp only [Act.put, List.setIfInBounds_toArray])
        obtain ⟨wz4, hwz⟩ : ∃ x, x = wz3.setRow ga3 (ringC z Z) := ⟨_, rfl⟩
        have BB4 := Lib.hid (show Below w6.heap.size w6 wz4 from by rw [hwz]; exact Below.setRowG BB3.out LEga3.out _)
        have HN_4 := Lib.hid (show Bx wz4 ga3 _ (ringC z Z) from by rw [hwz]; exact Bx.setRow HN_3.out _)
        have hq := KY_3.out.setRow (C' := (ringC z Z)) HN_3.out (no8_ring _ _)
        rw [← hwz] at hq
        have KY_4 := Lib.hid hq
        clear hq
        have hq := RZ_3.out.setRow (C' := (ringC z Z)) HN_3.out (no8_ring _ _)
        rw [← hwz] at hq
        have RZ_4 := Lib.hid hq
        clear hq
        rw [← hwz]
        clear hwz
        refine hK.out _ _ (KEEP.out _ BB4.out) (fun hHeld => ?_)
        clear hK K
        (try simp only [Act.put, List.setIfInBounds_toArray, List.set_cons_zero, List.set_cons_succ])
        refine wpAnyH_take (i := 10) (oi := ?_) (v := ?_) ?_ (by kernel_rfl) (by decide +kernel) (by decide +kernel) (fun _ _ _ h => h) ?_ (by assumption) ?_
        rotate_left 2
        focus (simp only [List.getElem?_toArray, List.getElem?_cons_succ, List.getElem?_cons_zero] <;> rfl)
        · refine Or.inl ⟨by rfl, ?_⟩
          intro w hSw
          (try dsimp only at hSw)
          go_simp <;> with_reducible rfl
        (try simp only [Act.put])
        refine wpAnyH_done (by decide +kernel) ?_ _
        refine NoPanic.normal ?_
        clear KEEP
        go_wp2_with fail
        go_meet
        case rel => exact ⟨rfl, ga3, z, rfl, HN_4.out, RZ_4.out, BB4.out, LEga3.out⟩
      refine AllReadyH.cons rfl (fun K hK => ?_) AllReadyH.nil
      go_simp
      obtain ⟨wz5, hwz⟩ : ∃ x, x = wz1.alloc (.cells #[.int .i64 0, .slice none 0 0, .int .i64 0, .slice none 0 0, .int .i64 0, .slice none 0 0, .int .i64 0, .int .i64 0] 26) := ⟨_, rfl⟩
      have hb : Below wz1.heap.size wz1 wz5 := by rw [hwz]; exact (Below.refl wz1.heap.size wz1).alloc (Nat.le_refl _) _
      have hx : Bx wz5 wz1.heap.size 26 (ringC wg0 rg0) := by rw [hwz]; exact Bx.new _ _ _
      have BB5 := Lib.hid (belG BB1.out hb BB1.out.size)
      rw [← hwz]
      obtain ⟨ga5, hga⟩ : ∃ g, g = wz1.heap.size := ⟨_, rfl⟩
      rw [← hga] at hx
      (try rw [← hga])
      have HN_5 := Lib.hid hx
      have LEga5 := Lib.hid (show w6.heap.size ≤ ga5 from by rw [hga]; exact BB1.out.size)
      have KY_5 := Lib.hid (KY_1.out.go hb)
      clear hb hx hwz hga
      refine hK.out _ _ (KEEP.out _ BB5.out) (fun hHeld => ?_)
      clear hK K
      (try simp only [Act.put, List.setIfInBounds_toArray, List.set_cons_zero, List.set_cons_succ])
      refine wpAnyH_ready (rs := [4]) (by decide +kernel) (by simp) ?_
      refine AllReadyH.cons rfl (fun K hK => ?_) AllReadyH.nil
      go_simp
      go_at_call 21
      refine (CB.out _ yk (RA.out.go BB5.out) KY_5.out).mono ?_
      rintro e wz6 ⟨⟨z, rfl, hz⟩, hb⟩
      have BB6 := Lib.hid (belG BB5.out hb BB5.out.size)
      have KY_6 := Lib.hid (KY_5.out.go hb)
      have HN_6 := Lib.hid (Bx.go HN_5.out hb)
      have RZ_6 := Lib.hid hz
      clear hz
      clear hb
      refine hK.out _ _ (KEEP.out _ BB6.out) (fun hHeld => ?_)
      clear hK K
      (try simp only [Act.put, List.setIfInBounds_toArray, List.set_cons_zero, List.set_cons_succ])
      refine wpAnyH_take (i := 5) (oi := ?_) (v := ?_) ?_ (by kernel_rfl) (by decide +kernel) (by decide +kernel) (fun _ _ _ h => h) ?_ (by assumption) ?_
      rotate_left 2
      focus (simp only [List.getElem?_toArray, List.getElem?_cons_succ, List.getElem?_cons_zero] <;> rfl)
      · refine Or.inl ⟨by rfl, ?_⟩
        intro w hSw
        (try dsimp only at hSw)
        go_simp <;> with_reducible rfl
      (try simp only [Act.put, List.setIfInBounds_toArray, List.set_cons_zero, List.set_cons_succ])
      refine wpAnyH_take (i := 6) (oi := ?_) (v := ?_) ?_ (by kernel_rfl) (by decide +kernel) (by decide +kernel) (fun _ _ _ h => h) ?_ (by assumption) ?_
      rotate_left 2
      focus (simp only [List.getElem?_toArray, List.getElem?_cons_succ, List.getElem?_cons_zero] <;> rfl)
      · refine Or.inl ⟨by rfl, ?_⟩
        intro w hSw
        (try dsimp only at hSw)
        go_simp <;> with_reducible rfl
      (try simp only [Act.put, List.setIfInBounds_toArray, List.set_cons_zero, List.set_cons_succ])
      refine wpAnyH_take (i := 7) (oi := ?_) (v := ?_) ?_ (by kernel_rfl) (by decide +kernel) (by decide +kernel) (fun _ _ _ h => h) ?_ (by assumption) ?_
      rotate_left 2
      focus (simp only [List.getElem?_toArray, List.getElem?_cons_succ, List.getElem?_cons_zero] <;> rfl)
      · refine Or.inl ⟨by rfl, ?_⟩
        intro w hSw
        (try dsimp only at hSw)
        go_simp <;> with_reducible rfl
      (try simp only [Act.put, List.setIfInBounds_toArray, List.set_cons_zero, List.set_cons_succ])
      refine wpAnyH_ready (rs := [9]) (by decide +kernel) (by simp) ?_
      refine AllReadyH.cons rfl (fun K hK => ?_) AllReadyH.nil
      rw [if_pos (by rfl)]
      refine wp_storeX (.tmp 12) (.tmp 58) ga5 (ringC z Z) _ tyRing rfl (ringC_one _ _) HN_6.out rfl rfl rfl rfl ?_
      (try simp only [Act.put, List.setIfInBounds_toArray])
      obtain ⟨wz7, hwz⟩ : ∃ x, x = wz6.setRow ga5 (ringC z Z) := ⟨_, rfl⟩
      have BB7 := Lib.hid (show Below w6.heap.size w6 wz7 from by rw [hwz]; exact Below.setRowG BB6.out LEga5.out _)
      have HN_7 := Lib.hid (show Bx wz7 ga5 _ (ringC z Z) from by rw [hwz]; exact Bx.setRow HN_6.out _)
      have hq := KY_6.out.setRow (C' := (ringC z Z)) HN_6.out (no8_ring _ _)
      rw [← hwz] at hq
      have KY_7 := Lib.hid hq
      clear hq
      have hq := RZ_6.out.setRow (C' := (ringC z Z)) HN_6.out (no8_ring _ _)
      rw [← hwz] at hq
      have RZ_7 := Lib.hid hq
      clear hq
      rw [← hwz]
      clear hwz
      refine hK.out _ _ (KEEP.out _ BB7.out) (fun hHeld => ?_)
      clear hK K
      (try simp only [Act.put, List.setIfInBounds_toArray, List.set_cons_zero, List.set_cons_succ])
      refine wpAnyH_take (i := 10) (oi := ?_) (v := ?_) ?_ (by kernel_rfl) (by decide +kernel) (by decide +kernel) (fun _ _ _ h => h) ?_ (by assumption) ?_
      rotate_left 2
      focus (simp only [List.getElem?_toArray, List.getElem?_cons_succ, List.getElem?_cons_zero] <;> rfl)
      · refine Or.inl ⟨by rfl, ?_⟩
        intro w hSw
        (try dsimp only at hSw)
        go_simp <;> with_reducible rfl
      (try simp only [Act.put])
      refine wpAnyH_done (by decide +kernel) ?_ _
      refine NoPanic.normal ?_
      clear KEEP
      go_wp2_with fail
      go_meet
      case rel => exact ⟨rfl, ga5, z, rfl, HN_7.out, RZ_7.out, BB7.out, LEga5.out⟩
    refine AllReadyH.cons rfl (fun K hK => ?_) AllReadyH.nil
    go_simp
    obtain ⟨wz8, hwz⟩ : ∃ x, x = wz0.alloc (.cells #[.int .i64 0, .slice none 0 0, .int .i64 0, .slice none 0 0, .int .i64 0, .slice none 0 0, .int .i64 0, .int .i64 0] 26) := ⟨_, rfl⟩
    have hb : Below wz0.heap.size wz0 wz8 := by rw [hwz]; exact (Below.refl wz0.heap.size wz0).alloc (Nat.le_refl _) _
    have hx : Bx wz8 wz0.heap.size 26 (ringC wg0 rg0) := by rw [hwz]; exact Bx.new _ _ _
    have BB8 := Lib.hid (belG BB0.out hb BB0.out.size)
    rw [← hwz]
    obtain ⟨ga8, hga⟩ : ∃ g, g = wz0.heap.size := ⟨_, rfl⟩
    rw [← hga] at hx
    (try rw [← hga])
    have HN_8 := Lib.hid hx
    have LEga8 := Lib.hid (show w6.heap.size ≤ ga8 from by rw [hga]; exact BB0.out.size)
    clear hb hx hwz hga
    refine hK.out _ _ (KEEP.out _ BB8.out) (fun hHeld => ?_)
    clear hK K
    (try simp only [Act.put, List.setIfInBounds_toArray, List.set_cons_zero, List.set_cons_succ])
    refine wpAnyH_ready (rs := [3]) (by decide +kernel) (by simp) ?_
    refine AllReadyH.cons rfl (fun K hK => ?_) AllReadyH.nil
    go_simp
    go_at_call 29
    refine (KB.out _).mono ?_
    rintro e wz9 ⟨⟨yk, rfl, hk⟩, hb⟩
    have BB9 := Lib.hid (belG BB8.out hb BB8.out.size)
    have HN_9 := Lib.hid (Bx.go HN_8.out hb)
    have KY_9 := Lib.hid hk
    clear hk
    clear hb
    refine hK.out _ _ (KEEP.out _ BB9.out) (fun hHeld => ?_)
    clear hK K
    (try simp only [Act.put, List.setIfInBounds_toArray, List.set_cons_zero, List.set_cons_succ])
    refine wpAnyH_ready (rs := [4]) (by decide +kernel) (by simp) ?_
    refine AllReadyH.cons rfl (fun K hK => ?_) AllReadyH.nil
    go_simp
    go_at_call 21
    refine (CB.out _ yk (RA.out.go BB9.out) KY_9.out).mono ?_
    rintro e wz10 ⟨⟨z, rfl, hz⟩, hb⟩
    have BB10 := Lib.hid (belG BB9.out hb BB9.out.size)
    have KY_10 := Lib.hid (KY_9.out.go hb)
    have HN_10 := Lib.hid (Bx.go HN_9.out hb)
    have RZ_10 := Lib.hid hz
    clear hz
    clear hb
    refine hK.out _ _ (KEEP.out _ BB10.out) (fun hHeld => ?_)
    clear hK K
    (try simp only [Act.put, List.setIfInBounds_toArray, List.set_cons_zero, List.set_cons_succ])
    refine wpAnyH_take (i := 5) (oi := ?_) (v := ?_) ?_ (by kernel_rfl) (by decide +kernel) (by decide +kernel) (fun _ _ _ h => h) ?_ (by assumption) ?_
    rotate_left 2
    focus (simp only [List.getElem?_toArray, List.getElem?_cons_succ, List.getElem?_cons_zero] <;> rfl)
    · refine Or.inl ⟨by rfl, ?_⟩
      intro w hSw
      (try dsimp only at hSw)
      go_simp <;> with_reducible rfl
    (try simp only [Act.put, List.setIfInBounds_toArray, List.set_cons_zero, List.set_cons_succ])
    refine wpAnyH_take (i := 6) (oi := ?_) (v := ?_) ?_ (by kernel_rfl) (by decide +kernel) (by decide +kernel) (fun _ _ _ h => h) ?_ (by assumption) ?_
    rotate_left 2
    focus (simp only [List.getElem?_toArray, List.getElem?_cons_succ, List.getElem?_cons_zero] <;> rfl)
    · refine Or.inl ⟨by rfl, ?_⟩
      intro w hSw
      (try dsimp only at hSw)
      go_simp <;> with_reducible rfl
    (try simp only [Act.put, List.setIfInBounds_toArray, List.set_cons_zero, List.set_cons_succ])
    refine wpAnyH_take (i := 7) (oi := ?_) (v := ?_) ?_ (by kernel_rfl) (by decide +kernel) (by decide +kernel) (fun _ _ _ h => h) ?_ (by assumption) ?_
    rotate_left 2
    focus (simp only [List.getElem?_toArray, List.getElem?_cons_succ, List.getElem?_cons_zero] <;> rfl)
    · refine Or.inl ⟨by rfl, ?_⟩
      intro w hSw
      (try dsimp only at hSw)
      go_simp <;> with_reducible rfl
    (try simp only [Act.put, List.setIfInBounds_toArray, List.set_cons_zero, List.set_cons_succ])
    refine wpAnyH_ready (rs := [9]) (by decide +kernel) (by simp) ?_
    refine AllReadyH.cons rfl (fun K hK => ?_) AllReadyH.nil
    rw [if_pos (by rfl)]
    refine wp_storeX (.tmp 12) (.tmp 58) ga8 (ringC z Z) _ tyRing rfl (ringC_one _ _) HN_10.out rfl rfl rfl rfl ?_
    (try simp only [Act.put, List.setIfInBounds_toArray])
    obtain ⟨wz11, hwz⟩ : ∃ x, x = wz10.setRow ga8 (ringC z Z) := ⟨_, rfl⟩
    have BB11 := Lib.hid (show Below w6.heap.size w6 wz11 from by rw [hwz]; exact Below.setRowG BB10.out LEga8.out _)
    have HN_11 := Lib.hid (show Bx wz11 ga8 _ (ringC z Z) from by rw [hwz]; exact Bx.setRow HN_10.out _)
    have hq := KY_10.out.setRow (C' := (ringC z Z)) HN_10.out (no8_ring _ _)
    rw [← hwz] at hq
    have KY_11 := Lib.hid hq
    clear hq
    have hq := RZ_10.out.setRow (C' := (ringC z Z)) HN_10.out (no8_ring _ _)
    rw [← hwz] at hq
    have RZ_11 := Lib.hid hq
    clear hq
    rw [← hwz]
    clear hwz
    refine hK.out _ _ (KEEP.out _ BB11.out) (fun hHeld => ?_)
    clear hK K
    (try simp only [Act.put, List.setIfInBounds_toArray, List.set_cons_zero, List.set_cons_succ])
    refine wpAnyH_take (i := 10) (oi := ?_) (v := ?_) ?_ (by kernel_rfl) (by decide +kernel) (by decide +kernel) (fun _ _ _ h => h) ?_ (by assumption) ?_
    rotate_left 2
    focus (simp only [List.getElem?_toArray, List.getElem?_cons_succ, List.getElem?_cons_zero] <;> rfl)
    · refine Or.inl ⟨by rfl, ?_⟩
      intro w hSw
      (try dsimp only at hSw)
      go_simp <;> with_reducible rfl
    (try simp only [Act.put])
    refine wpAnyH_done (by decide +kernel) ?_ _
    refine NoPanic.normal ?_
    clear KEEP
    go_wp2_with fail
    go_meet
    case rel => exact ⟨rfl, ga8, z, rfl, HN_11.out, RZ_11.out, BB11.out, LEga8.out⟩
  case rest =>
  obtain ⟨rfl, g12, z7, rfl, hg, hr, hb, hge⟩ := hcut
  obtain ⟨w7, hw⟩ : ∃ x, x = wc := ⟨_, rfl⟩
  rw [← hw] at hg hr hb ⊢
  clear hw
  have nHB := Lib.hid (belG HB.out hb HB.out.size)
  have NEG3G12 := Lib.hid (show g3 ≠ g12 from by have h1 := Bx.lt G3.out; omega)
  have NEG12G3 := Lib.hid (NEG3G12.out.symm)
  have NEG8G12 := Lib.hid (show g8 ≠ g12 from by have h1 := Bx.lt G8.out; omega)
  have NEG12G8 := Lib.hid (NEG8G12.out.symm)
  have NEG10G12 := Lib.hid (show g10 ≠ g12 from by have h1 := Bx.lt G10.out; omega)
  have NEG12G10 := Lib.hid (NEG10G12.out.symm)
  have LEG12 := Lib.hid (show W.heap.size ≤ g12 from by have h1 := HB.out.size; omega)
  have nRA := Lib.hid (RA.out.go hb)
  have nRG8 := Lib.hid (RG8.out.go hb)
  have nRG10 := Lib.hid (RG10.out.go hb)
  have nG3 := Lib.hid (Bx.go G3.out hb)
  have nG8 := Lib.hid (Bx.go G8.out hb)
  have nG10 := Lib.hid (Bx.go G10.out hb)
  have G12 := Lib.hid hg
  have RG12 := Lib.hid hr
  clear hb hg hr hge
  clear HB RA RG8 RG10 G3 G8 G10
  have HB := nHB
  have RA := nRA
  have RG8 := nRG8
  have RG10 := nRG10
  have G3 := nG3
  have G8 := nG8
  have G10 := nG10
  clear nHB nRA nRG8 nRG10 nG3 nG8 nG10
  rcases HCA.out with ⟨hno, hp1, hp2, hp3⟩ | ⟨hno, hp1, hp2, hp3⟩ | ⟨hno, rfl, hp1, rfl, hcur, hfi, hof, hwi⟩
  · injection hp1 with hX he
    injection hp2 with hZ hg
    injection hp3 with hY hf
    have hX := hX.symm
    have hY := hY.symm
    have hZ := hZ.symm
    subst hX hY hZ he hf hg
    by_cases hlo : no < 1
    · clear hno
      go_wp2_with (first | (refine loadX (.tmp 8) g8 (ringC z5 r) tyRing rfl G8.out rfl rfl rfl ?_) | (refine loadX (.tmp 3) g3 (ringC xa r) tyRing rfl G3.out rfl rfl rfl ?_))
      refine (CS.out z5 xa r _ RG8.out RA.out).mono ?_
      rintro e w8 ⟨rfl, hb⟩
      have nHB := Lib.hid (belG HB.out hb HB.out.size)
      have nRA := Lib.hid (RA.out.go hb)
      have nRG8 := Lib.hid (RG8.out.go hb)
      have nRG10 := Lib.hid (RG10.out.go hb)
      have nRG12 := Lib.hid (RG12.out.go hb)
      have nG3 := Lib.hid (Bx.go G3.out hb)
      have nG8 := Lib.hid (Bx.go G8.out hb)
      have nG10 := Lib.hid (Bx.go G10.out hb)
      have nG12 := Lib.hid (Bx.go G12.out hb)
      clear hb
      clear HB RA RG8 RG10 RG12 G3 G8 G10 G12
      have HB := nHB
      have RA := nRA
      have RG8 := nRG8
      have RG10 := nRG10
      have RG12 := nRG12
      have G3 := nG3
      have G8 := nG8
      have G10 := nG10
      have G12 := nG12
      clear nHB nRA nRG8 nRG10 nRG12 nG3 nG8 nG10 nG12
      go_wp2_with (first | (refine loadX (.tmp 10) g10 (ringC z6 r) tyRing rfl G10.out rfl rfl rfl ?_) | (refine loadX (.tmp 3) g3 (ringC xa r) tyRing rfl G3.out rfl rfl rfl ?_))
      refine (CS.out z6 xa r _ RG10.out RA.out).mono ?_
      rintro e w9 ⟨rfl, hb⟩
      have nHB := Lib.hid (belG HB.out hb HB.out.size)
      have nRA := Lib.hid (RA.out.go hb)
      have nRG8 := Lib.hid (RG8.out.go hb)
      have nRG10 := Lib.hid (RG10.out.go hb)
      have nRG12 := Lib.hid (RG12.out.go hb)
      have nG3 := Lib.hid (Bx.go G3.out hb)
      have nG8 := Lib.hid (Bx.go G8.out hb)
      have nG10 := Lib.hid (Bx.go G10.out hb)
      have nG12 := Lib.hid (Bx.go G12.out hb)
      clear hb
      clear HB RA RG8 RG10 RG12 G3 G8 G10 G12
      have HB := nHB
      have RA := nRA
      have RG8 := nRG8
      have RG10 := nRG10
      have RG12 := nRG12
      have G3 := nG3
      have G8 := nG8
      have G10 := nG10
      have G12 := nG12
      clear nHB nRA nRG8 nRG10 nRG12 nG3 nG8 nG10 nG12
      go_wp2_with fail
      go_ret
      exact ⟨by first | rfl | (simp; done) | (simp; omega), HB.out⟩
    · have hhi : 2147483647 < no := by omega
      clear hno
      go_wp2_with (first | (refine loadX (.tmp 8) g8 (ringC z5 r) tyRing rfl G8.out rfl rfl rfl ?_) | (refine loadX (.tmp 3) g3 (ringC xa r) tyRing rfl G3.out rfl rfl rfl ?_))
      refine (CS.out z5 xa r _ RG8.out RA.out).mono ?_
      rintro e w8 ⟨rfl, hb⟩
      have nHB := Lib.hid (belG HB.out hb HB.out.size)
      have nRA := Lib.hid (RA.out.go hb)
      have nRG8 := Lib.hid (RG8.out.go hb)
      have nRG10 := Lib.hid (RG10.out.go hb)
      have nRG12 := Lib.hid (RG12.out.go hb)
      have nG3 := Lib.hid (Bx.go G3.out hb)
      have nG8 := Lib.hid (Bx.go G8.out hb)
      have nG10 := Lib.hid (Bx.go G10.out hb)
      have nG12 := Lib.hid (Bx.go G12.out hb)
      clear hb
      clear HB RA RG8 RG10 RG12 G3 G8 G10 G12
      have HB := nHB
      have RA := nRA
      have RG8 := nRG8
      have RG10 := nRG10
      have RG12 := nRG12
      have G3 := nG3
      have G8 := nG8
      have G10 := nG10
      have G12 := nG12
      clear nHB nRA nRG8 nRG10 nRG12 nG3 nG8 nG10 nG12
      go_wp2_with (first | (refine loadX (.tmp 10) g10 (ringC z6 r) tyRing rfl G10.out rfl rfl rfl ?_) | (refine loadX (.tmp 3) g3 (ringC xa r) tyRing rfl G3.out rfl rfl rfl ?_))
      refine (CS.out z6 xa r _ RG10.out RA.out).mono ?_
      rintro e w9 ⟨rfl, hb⟩
      have nHB := Lib.hid (belG HB.out hb HB.out.size)
      have nRA := Lib.hid (RA.out.go hb)
      have nRG8 := Lib.hid (RG8.out.go hb)
      have nRG10 := Lib.hid (RG10.out.go hb)
      have nRG12 := Lib.hid (RG12.out.go hb)
      have nG3 := Lib.hid (Bx.go G3.out hb)
      have nG8 := Lib.hid (Bx.go G8.out hb)
      have nG10 := Lib.hid (Bx.go G10.out hb)
      have nG12 := Lib.hid (Bx.go G12.out hb)
      clear hb
      clear HB RA RG8 RG10 RG12 G3 G8 G10 G12
      have HB := nHB
      have RA := nRA
      have RG8 := nRG8
      have RG10 := nRG10
      have RG12 := nRG12
      have G3 := nG3
      have G8 := nG8
      have G10 := nG10
      have G12 := nG12
      clear nHB nRA nRG8 nRG10 nRG12 nG3 nG8 nG10 nG12
      go_wp2_with fail
      go_ret
      exact ⟨by first | rfl | (simp; done) | (simp; omega), HB.out⟩
  · injection hp1 with hX he
    injection hp2 with hZ hg
    injection hp3 with hY hf
    have hX := hX.symm
    have hY := hY.symm
    have hZ := hZ.symm
    subst hX hY hZ he hf hg
    have hlo : ¬ no < 1 := by omega
    have hhi : ¬ 2147483647 < no := by omega
    clear hno
    go_wp2_with (first | (refine loadX (.tmp 8) g8 (ringC z5 r) tyRing rfl G8.out rfl rfl rfl ?_) | (refine loadX (.tmp 3) g3 (ringC xa r) tyRing rfl G3.out rfl rfl rfl ?_))
    refine (CS.out z5 xa r _ RG8.out RA.out).mono ?_
    rintro e w8 ⟨rfl, hb⟩
    have nHB := Lib.hid (belG HB.out hb HB.out.size)
    have nRA := Lib.hid (RA.out.go hb)
    have nRG8 := Lib.hid (RG8.out.go hb)
    have nRG10 := Lib.hid (RG10.out.go hb)
    have nRG12 := Lib.hid (RG12.out.go hb)
    have nG3 := Lib.hid (Bx.go G3.out hb)
    have nG8 := Lib.hid (Bx.go G8.out hb)
    have nG10 := Lib.hid (Bx.go G10.out hb)
    have nG12 := Lib.hid (Bx.go G12.out hb)
    clear hb
    clear HB RA RG8 RG10 RG12 G3 G8 G10 G12
    have HB := nHB
    have RA := nRA
    have RG8 := nRG8
    have RG10 := nRG10
    have RG12 := nRG12
    have G3 := nG3
    have G8 := nG8
    have G10 := nG10
    have G12 := nG12
    clear nHB nRA nRG8 nRG10 nRG12 nG3 nG8 nG10 nG12
    go_wp2_with (first | (refine loadX (.tmp 10) g10 (ringC z6 r) tyRing rfl G10.out rfl rfl rfl ?_) | (refine loadX (.tmp 3) g3 (ringC xa r) tyRing rfl G3.out rfl rfl rfl ?_))
    refine (CS.out z6 xa r _ RG10.out RA.out).mono ?_
    rintro e w9 ⟨rfl, hb⟩
    have nHB := Lib.hid (belG HB.out hb HB.out.size)
    have nRA := Lib.hid (RA.out.go hb)
    have nRG8 := Lib.hid (RG8.out.go hb)
    have nRG10 := Lib.hid (RG10.out.go hb)
    have nRG12 := Lib.hid (RG12.out.go hb)
    have nG3 := Lib.hid (Bx.go G3.out hb)
    have nG8 := Lib.hid (Bx.go G8.out hb)
    have nG10 := Lib.hid (Bx.go G10.out hb)
    have nG12 := Lib.hid (Bx.go G12.out hb)
    clear hb
    clear HB RA RG8 RG10 RG12 G3 G8 G10 G12
    have HB := nHB
    have RA := nRA
    have RG8 := nRG8
    have RG10 := nRG10
    have RG12 := nRG12
    have G3 := nG3
    have G8 := nG8
    have G10 := nG10
    have G12 := nG12
    clear nHB nRA nRG8 nRG10 nRG12 nG3 nG8 nG10 nG12
    go_wp2_with fail
    go_ret
    exact ⟨by first | rfl | (simp; done) | (simp; omega), HB.out⟩
  · injection hp1 with hY hf
    subst hY hf
    rw [hfi] at CF
    simp only [keyL_len] at CF
    rw [hwi] at CW
    obtain ⟨q, hq⟩ : ∃ q, q = no - 1 := ⟨_, rfl⟩
    have CD2 := Lib.hid (fun w y h k => CD.out hno z6 w y h k)
    rw [← hq] at CD2 hof
    have hqi : no - 1 = q := hq.symm
    have hqw : IntKind.i64.wrap q = q := by rw [IntKind.wrap_i64]; omega
    clear hq hfi CD
    generalize offerR Y q (keyL a) = P3 at *
    obtain ⟨Y3, h3⟩ := P3
    simp only at CD2 hof
    have hh : (h3 != 0) = true := by simpa using hof
    have hci : decide (cn < no) = true := decide_eq_true hcur
    clear hof hno
    generalize withdrawR X = D at *
    go_wp2_with (refine loadX (.tmp 10) g10 (ringC z6 Y) tyRing rfl G10.out rfl rfl rfl ?_)
    refine (CF.out z6 _ RG10.out).mono ?_
    rintro e w8 ⟨⟨fk, rfl, hk⟩, hb⟩
    have nHB := Lib.hid (belG HB.out hb HB.out.size)
    have nRA := Lib.hid (RA.out.go hb)
    have nRG8 := Lib.hid (RG8.out.go hb)
    have nRG10 := Lib.hid (RG10.out.go hb)
    have nRG12 := Lib.hid (RG12.out.go hb)
    have nG3 := Lib.hid (Bx.go G3.out hb)
    have nG8 := Lib.hid (Bx.go G8.out hb)
    have nG10 := Lib.hid (Bx.go G10.out hb)
    have nG12 := Lib.hid (Bx.go G12.out hb)
    clear hb
    clear HB RA RG8 RG10 RG12 G3 G8 G10 G12
    have HB := nHB
    have RA := nRA
    have RG8 := nRG8
    have RG10 := nRG10
    have RG12 := nRG12
    have G3 := nG3
    have G8 := nG8
    have G10 := nG10
    have G12 := nG12
    clear nHB nRA nRG8 nRG10 nRG12 nG3 nG8 nG10 nG12
    have RF := Lib.hid hk
    clear hk
    go_upto_region 14 with fail
    go_cut [16, 17] (fun tp te wx => AnsOf w8 wx tp te Y3 h3)
    case first =>
      have BB0 := Lib.hid ((Below.refl w8.heap.size w8).drew)
      have KEEP := Lib.hid (fun w' (hW : Below w8.heap.size w8 w') => (show Below w8.heap.size w8 w' from hW))
      refine wp_region_noPanic ?_
      refine wp_region_held_drew (S := fun w' => Below w8.heap.size w8 w') (by kernel_rfl) (KEEP.out _ BB0.out) (fun hHeld => ?_)
      obtain ⟨wz0, hwz⟩ : ∃ x, x = w8.drew := ⟨_, rfl⟩
      rw [← hwz] at BB0 hHeld ⊢
      clear hwz
      refine wpAnyH_take (i := 0) (oi := ?_) (v := .agg (ringC z6 Y)) ?_ (by kernel_rfl) (by decide +kernel) (by decide +kernel) (fun _ _ _ h => h) ?_ (by assumption) ?_
      rotate_left 1
      focus (simp only [List.getElem?_toArray, List.getElem?_cons_zero] <;> rfl)
      · refine yieldsX (T := 26) ?_ (.tmp 10) ?_ ⟨g10, 0, none⟩ ?_ (ringC z6 Y) ?_
        focus rfl
        focus exact rfl
        focus exact rfl
        exact fun w hSw => run_loadX tyRing rfl (Bx.go G10.out hSw)
      (try simp only [Act.put, List.setIfInBounds_toArray, List.set_cons_zero, List.set_cons_succ])
      refine wpAnyH_take (i := 1) (oi := ?_) (v := ?_) ?_ (by kernel_rfl) (by decide +kernel) (by decide +kernel) (fun _ _ _ h => h) ?_ (by assumption) ?_
      rotate_left 2
      focus (simp only [List.getElem?_toArray, List.getElem?_cons_succ, List.getElem?_cons_zero] <;> rfl)
      · refine Or.inl ⟨by rfl, ?_⟩
        intro w hSw
        (try dsimp only at hSw)
        go_simp <;> with_reducible rfl
      (try simp only [Act.put, List.setIfInBounds_toArray, List.set_cons_zero, List.set_cons_succ])
      refine wpAnyH_take (i := 3) (oi := ?_) (v := ?_) ?_ (by kernel_rfl) (by decide +kernel) (by decide +kernel) (fun _ _ _ h => h) ?_ (by assumption) ?_
      rotate_left 2
      focus (simp only [List.getElem?_toArray, List.getElem?_cons_succ, List.getElem?_cons_zero] <;> rfl)
      · refine Or.inl ⟨by rfl, ?_⟩
        intro w hSw
        (try dsimp only at hSw)
        go_simp <;> with_reducible rfl
      (try simp only [Act.put, List.setIfInBounds_toArray, List.set_cons_zero, List.set_cons_succ])
      refine wpAnyH_take (i := 2) (oi := ?_) (v := ?_) ?_ (by kernel_rfl) (by decide +kernel) (by decide +kernel) (fun _ _ _ h => h) ?_ (by assumption) ?_
      rotate_left 2
      focus (simp only [List.getElem?_toArray, List.getElem?_cons_succ, List.getElem?_cons_zero] <;> rfl)
      · refine Or.inl ⟨by rfl, ?_⟩
        intro w hSw
        (try dsimp only at hSw)
        go_simp <;> with_reducible rfl
      (try simp only [Act.put, List.setIfInBounds_toArray, List.set_cons_zero, List.set_cons_succ])
      refine wpAnyH_ready (rs := [4, 9]) (by decide +kernel) (by simp) ?_
      refine AllReadyH.cons rfl (fun K hK => ?_) ?_
      · go_simp
        go_at_call 29
        refine (KA.out _).mono ?_
        rintro e wz1 ⟨⟨yk, rfl, hk⟩, hb⟩
        have BB1 := Lib.hid (belG BB0.out hb BB0.out.size)
        have KY_1 := Lib.hid hk
        clear hk
        clear hb
        refine hK.out _ _ (KEEP.out _ BB1.out) (fun hHeld => ?_)
        clear hK K
        (try simp only [Act.put, List.setIfInBounds_toArray, List.set_cons_zero, List.set_cons_succ])
        refine wpAnyH_ready (rs := [5, 9]) (by decide +kernel) (by simp) ?_
        refine AllReadyH.cons rfl (fun K hK => ?_) ?_
        · go_simp
          go_at_call 21
          refine (CD2.out _ yk (RG10.out.go BB1.out) KY_1.out).mono ?_
          rintro e wz2 ⟨⟨z, rfl, hz⟩, hb⟩
          have BB2 := Lib.hid (belG BB1.out hb BB1.out.size)
          have KY_2 := Lib.hid (KY_1.out.go hb)
          have RZ_2 := Lib.hid hz
          clear hz
          clear hb
          refine hK.out _ _ (KEEP.out _ BB2.out) (fun hHeld => ?_)
          clear hK K
          (try simp only [Act.put, List.setIfInBounds_toArray, List.set_cons_zero, List.set_cons_succ])
          refine wpAnyH_take (i := 6) (oi := ?_) (v := ?_) ?_ (by kernel_rfl) (by decide +kernel) (by decide +kernel) (fun _ _ _ h => h) ?_ (by assumption) ?_
          rotate_left 2
          focus (simp only [List.getElem?_toArray, List.getElem?_cons_succ, List.getElem?_cons_zero] <;> rfl)
          · refine Or.inl ⟨by rfl, ?_⟩
            intro w hSw
            (try dsimp only at hSw)
            go_simp <;> with_reducible rfl
          (try simp only [Act.put, List.setIfInBounds_toArray, List.set_cons_zero, List.set_cons_succ])
          refine wpAnyH_take (i := 7) (oi := ?_) (v := ?_) ?_ (by kernel_rfl) (by decide +kernel) (by decide +kernel) (fun _ _ _ h => h) ?_ (by assumption) ?_
          rotate_left 2
          focus (simp only [List.getElem?_toArray, List.getElem?_cons_succ, List.getElem?_cons_zero] <;> rfl)
          · refine Or.inl ⟨by rfl, ?_⟩
            intro w hSw
            (try dsimp only at hSw)
            go_simp <;> with_reducible rfl
          (try simp only [Act.put, List.setIfInBounds_toArray, List.set_cons_zero, List.set_cons_succ])
          refine wpAnyH_take (i := 8) (oi := ?_) (v := ?_) ?_ (by kernel_rfl) (by decide +kernel) (by decide +kernel) (fun _ _ _ h => h) ?_ (by assumption) ?_
          rotate_left 2
          focus (simp only [List.getElem?_toArray, List.getElem?_cons_succ, List.getElem?_cons_zero] <;> rfl)
          · refine Or.inl ⟨by rfl, ?_⟩
            intro w hSw
            (try dsimp only at hSw)
            go_simp <;> with_reducible rfl
          (try simp only [Act.put, List.setIfInBounds_toArray, List.set_cons_zero, List.set_cons_succ])
          refine wpAnyH_ready (rs := [9]) (by decide +kernel) (by simp) ?_
          refine AllReadyH.cons rfl (fun K hK => ?_) AllReadyH.nil
          go_simp
          obtain ⟨wz3, hwz⟩ : ∃ x, x = wz2.alloc (.cells #[.int .i64 0, .slice none 0 0, .int .i64 0, .slice none 0 0, .int .i64 0, .slice none 0 0, .int .i64 0, .int .i64 0] 26) := ⟨_, rfl⟩
          have hb : Below wz2.heap.size wz2 wz3 := by rw [hwz]; exact (Below.refl wz2.heap.size wz2).alloc (Nat.le_refl _) _
          have hx : Bx wz3 wz2.heap.size 26 (ringC wg0 rg0) := by rw [hwz]; exact Bx.new _ _ _
          have BB3 := Lib.hid (belG BB2.out hb BB2.out.size)
          rw [← hwz]
          obtain ⟨ga3, hga⟩ : ∃ g, g = wz2.heap.size := ⟨_, rfl⟩
          rw [← hga] at hx
          (try rw [← hga])
          have HN_3 := Lib.hid hx
          have LEga3 := Lib.hid (show w8.heap.size ≤ ga3 from by rw [hga]; exact BB2.out.size)
          have KY_3 := Lib.hid (KY_2.out.go hb)
          have RZ_3 := Lib.hid (RZ_2.out.go hb)
          clear hb hx hwz hga
          refine hK.out _ _ (KEEP.out _ BB3.out) (fun hHeld => ?_)
          clear hK K
          (try simp only [Act.put, List.setIfInBounds_toArray, List.set_cons_zero, List.set_cons_succ])
          refine wpAnyH_ready (rs := [10]) (by decide +kernel) (by simp) ?_
          refine AllReadyH.cons rfl (fun K hK => ?_) AllReadyH.nil
          rw [if_pos (by rfl)]
          refine wp_storeX (.tmp 16) (.tmp 107) ga3 (ringC z Y3) _ tyRing rfl (ringC_one _ _) HN_3.out rfl rfl rfl rfl ?_
          (try simp only [Act.put, List.setIfInBounds_toArray])
          obtain ⟨wz4, hwz⟩ : ∃ x, x = wz3.setRow ga3 (ringC z Y3) := ⟨_, rfl⟩
          have BB4 := Lib.hid (show Below w8.heap.size w8 wz4 from by rw [hwz]; exact Below.setRowG BB3.out LEga3.out _)
          have HN_4 := Lib.hid (show Bx wz4 ga3 _ (ringC z Y3) from by rw [hwz]; exact Bx.setRow HN_3.out _)
          have hq := KY_3.out.setRow (C' := (ringC z Y3)) HN_3.out (no8_ring _ _)
          rw [← hwz] at hq
          have KY_4 := Lib.hid hq
          clear hq
          have hq := RZ_3.out.setRow (C' := (ringC z Y3)) HN_3.out (no8_ring _ _)
          rw [← hwz] at hq
          have RZ_4 := Lib.hid hq
          clear hq
          rw [← hwz]
          clear hwz
          refine hK.out _ _ (KEEP.out _ BB4.out) (fun hHeld => ?_)
          clear hK K
          (try simp only [Act.put, List.setIfInBounds_toArray, List.set_cons_zero, List.set_cons_succ])
          refine wpAnyH_take (i := 11) (oi := ?_) (v := ?_) ?_ (by kernel_rfl) (by decide +kernel) (by decide +kernel) (fun _ _ _ h => h) ?_ (by assumption) ?_
          rotate_left 2
          focus (simp only [List.getElem?_toArray, List.getElem?_cons_succ, List.getElem?_cons_zero] <;> rfl)
          · refine Or.inl ⟨by rfl, ?_⟩
            intro w hSw
            (try dsimp only at hSw)
            go_simp <;> with_reducible rfl
          (try simp only [Act.put])
          refine wpAnyH_done (by decide +kernel) ?_ _
          refine NoPanic.normal ?_
          clear KEEP
          go_wp2_with fail
          go_meet
          case rel => exact ⟨rfl, ga3, z, rfl, HN_4.out, RZ_4.out, BB4.out, LEga3.out⟩
        refine AllReadyH.cons rfl (fun K hK => ?_) AllReadyH.nil
        go_simp
        obtain ⟨wz5, hwz⟩ : ∃ x, x = wz1.alloc (.cells #[.int .i64 0, .slice none 0 0, .int .i64 0, .slice none 0 0, .int .i64 0, .slice none 0 0, .int .i64 0, .int .i64 0] 26) := ⟨_, rfl⟩
        have hb : Below wz1.heap.size wz1 wz5 := by rw [hwz]; exact (Below.refl wz1.heap.size wz1).alloc (Nat.le_refl _) _
        have hx : Bx wz5 wz1.heap.size 26 (ringC wg0 rg0) := by rw [hwz]; exact Bx.new _ _ _
        have BB5 := Lib.hid (belG BB1.out hb BB1.out.size)
        rw [← hwz]
        obtain ⟨ga5, hga⟩ : ∃ g, g = wz1.heap.size := ⟨_, rfl⟩
        rw [← hga] at hx
        (try rw [← hga])
        have HN_5 := Lib.hid hx
        have LEga5 := Lib.hid (show w8.heap.size ≤ ga5 from by rw [hga]; exact BB1.out.size)
        have KY_5 := Lib.hid (KY_1.out.go hb)
        clear hb hx hwz hga
        refine hK.out _ _ (KEEP.out _ BB5.out) (fun hHeld => ?_)
        clear hK K
        (try simp only [Act.put, List.setIfInBounds_toArray, List.set_cons_zero, List.set_cons_succ])
        refine wpAnyH_ready (rs := [5]) (by decide +kernel) (by simp) ?_
        refine AllReadyH.cons rfl (fun K hK => ?_) AllReadyH.nil
        go_simp
        go_at_call 21
        refine (CD2.out _ yk (RG10.out.go BB5.out) KY_5.out).mono ?_
        rintro e wz6 ⟨⟨z, rfl, hz⟩, hb⟩
        have BB6 := Lib.hid (belG BB5.out hb BB5.out.size)
        have KY_6 := Lib.hid (KY_5.out.go hb)
        have HN_6 := Lib.hid (Bx.go HN_5.out hb)
        have RZ_6 := Lib.hid hz
        clear hz
        clear hb
        refine hK.out _ _ (KEEP.out _ BB6.out) (fun hHeld => ?_)
        clear hK K
        (try simp only [Act.put, List.setIfInBounds_toArray, List.set_cons_zero, List.set_cons_succ])
        refine wpAnyH_take (i := 6) (oi := ?_) (v := ?_) ?_ (by kernel_rfl) (by decide +kernel) (by decide +kernel) (fun _ _ _ h => h) ?_ (by assumption) ?_
        rotate_left 2
        focus (simp only [List.getElem?_toArray, List.getElem?_cons_succ, List.getElem?_cons_zero] <;> rfl)
        · refine Or.inl ⟨by rfl, ?_⟩
          intro w hSw
          (try dsimp only at hSw)
          go_simp <;> with_reducible rfl
        (try simp only [Act.put, List.setIfInBounds_toArray, List.set_cons_zero, List.set_cons_succ])
        refine wpAnyH_take (i := 7) (oi := ?_) (v := ?_) ?_ (by kernel_rfl) (by decide +kernel) (by decide +kernel) (fun _ _ _ h => h) ?_ (by assumption) ?_
        rotate_left 2
        focus (simp only [List.getElem?_toArray, List.getElem?_cons_succ, List.getElem?_cons_zero] <;> rfl)
        · refine Or.inl ⟨by rfl, ?_⟩
          intro w hSw
          (try dsimp only at hSw)
          go_simp <;> with_reducible rfl
        (try simp only [Act.put, List.setIfInBounds_toArray, List.set_cons_zero, List.set_cons_succ])
        refine wpAnyH_take (i := 8) (oi := ?_) (v := ?_) ?_ (by kernel_rfl) (by decide +kernel) (by decide +kernel) (fun _ _ _ h => h) ?_ (by assumption) ?_
        rotate_left 2
        focus (simp only [List.getElem?_toArray, List.getElem?_cons_succ, List.getElem?_cons_zero] <;> rfl)
        · refine Or.inl ⟨by rfl, ?_⟩
          intro w hSw
          (try dsimp only at hSw)
          go_simp <;> with_reducible rfl
        (try simp only [Act.put, List.setIfInBounds_toArray, List.set_cons_zero, List.set_cons_succ])
        refine wpAnyH_ready (rs := [10]) (by decide +kernel) (by simp) ?_
        refine AllReadyH.cons rfl (fun K hK => ?_) AllReadyH.nil
        rw [if_pos (by rfl)]
        refine wp_storeX (.tmp 16) (.tmp 107) ga5 (ringC z Y3) _ tyRing rfl (ringC_one _ _) HN_6.out rfl rfl rfl rfl ?_
        (try simp only [Act.put, List.setIfInBounds_toArray])
        obtain ⟨wz7, hwz⟩ : ∃ x, x = wz6.setRow ga5 (ringC z Y3) := ⟨_, rfl⟩
        have BB7 := Lib.hid (show Below w8.heap.size w8 wz7 from by rw [hwz]; exact Below.setRowG BB6.out LEga5.out _)
        have HN_7 := Lib.hid (show Bx wz7 ga5 _ (ringC z Y3) from by rw [hwz]; exact Bx.setRow HN_6.out _)
        have hq := KY_6.out.setRow (C' := (ringC z Y3)) HN_6.out (no8_ring _ _)
        rw [← hwz] at hq
        have KY_7 := Lib.hid hq
        clear hq
        have hq := RZ_6.out.setRow (C' := (ringC z Y3)) HN_6.out (no8_ring _ _)
        rw [← hwz] at hq
        have RZ_7 := Lib.hid hq
        clear hq
        rw [← hwz]
        clear hwz
        refine hK.out _ _ (KEEP.out _ BB7.out) (fun hHeld => ?_)
        clear hK K
        (try simp only [Act.put, List.setIfInBounds_toArray, List.set_cons_zero, List.set_cons_succ])
        refine wpAnyH_take (i := 11) (oi := ?_) (v := ?_) ?_ (by kernel_rfl) (by decide +kernel) (by decide +kernel) (fun _ _ _ h => h) ?_ (by assumption) ?_
        rotate_left 2
        focus (simp only [List.getElem?_toArray, List.getElem?_cons_succ, List.getElem?_cons_zero] <;> rfl)
        · refine Or.inl ⟨by rfl, ?_⟩
          intro w hSw
          (try dsimp only at hSw)
          go_simp <;> with_reducible rfl
        (try simp only [Act.put])
        refine wpAnyH_done (by decide +kernel) ?_ _
        refine NoPanic.normal ?_
        clear KEEP
        go_wp2_with fail
        go_meet
        case rel => exact ⟨rfl, ga5, z, rfl, HN_7.out, RZ_7.out, BB7.out, LEga5.out⟩
      refine AllReadyH.cons rfl (fun K hK => ?_) AllReadyH.nil
      go_simp
      obtain ⟨wz8, hwz⟩ : ∃ x, x = wz0.alloc (.cells #[.int .i64 0, .slice none 0 0, .int .i64 0, .slice none 0 0, .int .i64 0, .slice none 0 0, .int .i64 0, .int .i64 0] 26) := ⟨_, rfl⟩
      have hb : Below wz0.heap.size wz0 wz8 := by rw [hwz]; exact (Below.refl wz0.heap.size wz0).alloc (Nat.le_refl _) _
      have hx : Bx wz8 wz0.heap.size 26 (ringC wg0 rg0) := by rw [hwz]; exact Bx.new _ _ _
      have BB8 := Lib.hid (belG BB0.out hb BB0.out.size)
      rw [← hwz]
      obtain ⟨ga8, hga⟩ : ∃ g, g = wz0.heap.size := ⟨_, rfl⟩
      rw [← hga] at hx
      (try rw [← hga])
      have HN_8 := Lib.hid hx
      have LEga8 := Lib.hid (show w8.heap.size ≤ ga8 from by rw [hga]; exact BB0.out.size)
      clear hb hx hwz hga
      refine hK.out _ _ (KEEP.out _ BB8.out) (fun hHeld => ?_)
      clear hK K
      (try simp only [Act.put, List.setIfInBounds_toArray, List.set_cons_zero, List.set_cons_succ])
      refine wpAnyH_ready (rs := [4]) (by decide +kernel) (by simp) ?_
      refine AllReadyH.cons rfl (fun K hK => ?_) AllReadyH.nil
      go_simp
      go_at_call 29
      refine (KA.out _).mono ?_
      rintro e wz9 ⟨⟨yk, rfl, hk⟩, hb⟩
      have BB9 := Lib.hid (belG BB8.out hb BB8.out.size)
      have HN_9 := Lib.hid (Bx.go HN_8.out hb)
      have KY_9 := Lib.hid hk
      clear hk
      clear hb
      refine hK.out _ _ (KEEP.out _ BB9.out) (fun hHeld => ?_)
      clear hK K
      (try simp only [Act.put, List.setIfInBounds_toArray, List.set_cons_zero, List.set_cons_succ])
      refine wpAnyH_ready (rs := [5]) (by decide +kernel) (by simp) ?_
      refine AllReadyH.cons rfl (fun K hK => ?_) AllReadyH.nil
      go_simp
      go_at_call 21
      refine (CD2.out _ yk (RG10.out.go BB9.out) KY_9.out).mono ?_
      rintro e wz10 ⟨⟨z, rfl, hz⟩, hb⟩
      have BB10 := Lib.hid (belG BB9.out hb BB9.out.size)
      have KY_10 := Lib.hid (KY_9.out.go hb)
      have HN_10 := Lib.hid (Bx.go HN_9.out hb)
      have RZ_10 := Lib.hid hz
      clear hz
      clear hb
      refine hK.out _ _ (KEEP.out _ BB10.out) (fun hHeld => ?_)
      clear hK K
      (try simp only [Act.put, List.setIfInBounds_toArray, List.set_cons_zero, List.set_cons_succ])
      refine wpAnyH_take (i := 6) (oi := ?_) (v := ?_) ?_ (by kernel_rfl) (by decide +kernel) (by decide +kernel) (fun _ _ _ h => h) ?_ (by assumption) ?_
      rotate_left 2
      focus (simp only [List.getElem?_toArray, List.getElem?_cons_succ, List.getElem?_cons_zero] <;> rfl)
      · refine Or.inl ⟨by rfl, ?_⟩
        intro w hSw
        (try dsimp only at hSw)
        go_simp <;> with_reducible rfl
      (try simp only [Act.put, List.setIfInBounds_toArray, List.set_cons_zero, List.set_cons_succ])
      refine wpAnyH_take (i := 7) (oi := ?_) (v := ?_) ?_ (by kernel_rfl) (by decide +kernel) (by decide +kernel) (fun _ _ _ h => h) ?_ (by assumption) ?_
      rotate_left 2
      focus (simp only [List.getElem?_toArray, List.getElem?_cons_succ, List.getElem?_cons_zero] <;> rfl)
      · refine Or.inl ⟨by rfl, ?_⟩
        intro w hSw
        (try dsimp only at hSw)
        go_simp <;> with_reducible rfl
      (try simp only [Act.put, List.setIfInBounds_toArray, List.set_cons_zero, List.set_cons_succ])
      refine wpAnyH_take (i := 8) (oi := ?_) (v := ?_) ?_ (by kernel_rfl) (by decide +kernel) (by decide +kernel) (fun _ _ _ h => h) ?_ (by assumption) ?_
      rotate_left 2
      focus (simp only [List.getElem?_toArray, List.getElem?_cons_succ, List.getElem?_cons_zero] <;> rfl)
      · refine Or.inl ⟨by rfl, ?_⟩
        intro w hSw
        (try dsimp only at hSw)
        go_simp <;> with_reducible rfl
      (try simp only [Act.put, List.setIfInBounds_toArray, List.set_cons_zero, List.set_cons_succ])
      refine wpAnyH_ready (rs := [10]) (by decide +kernel) (by simp) ?_
      refine AllReadyH.cons rfl (fun K hK => ?_) AllReadyH.nil
      rw [if_pos (by rfl)]
      refine wp_storeX (.tmp 16) (.tmp 107) ga8 (ringC z Y3) _ tyRing rfl (ringC_one _ _) HN_10.out rfl rfl rfl rfl ?_
      (try simp only [Act.put, List.setIfInBounds_toArray])
      obtain ⟨wz11, hwz⟩ : ∃ x, x = wz10.setRow ga8 (ringC z Y3) := ⟨_, rfl⟩
      have BB11 := Lib.hid (show Below w8.heap.size w8 wz11 from by rw [hwz]; exact Below.setRowG BB10.out LEga8.out _)
      have HN_11 := Lib.hid (show Bx wz11 ga8 _ (ringC z Y3) from by rw [hwz]; exact Bx.setRow HN_10.out _)
      have hq := KY_10.out.setRow (C' := (ringC z Y3)) HN_10.out (no8_ring _ _)
      rw [← hwz] at hq
      have KY_11 := Lib.hid hq
      clear hq
      have hq := RZ_10.out.setRow (C' := (ringC z Y3)) HN_10.out (no8_ring _ _)
      rw [← hwz] at hq
      have RZ_11 := Lib.hid hq
      clear hq
      rw [← hwz]
      clear hwz
      refine hK.out _ _ (KEEP.out _ BB11.out) (fun hHeld => ?_)
      clear hK K
      (try simp only [Act.put, List.setIfInBounds_toArray, List.set_cons_zero, List.set_cons_succ])
      refine wpAnyH_take (i := 11) (oi := ?_) (v := ?_) ?_ (by kernel_rfl) (by decide +kernel) (by decide +kernel) (fun _ _ _ h => h) ?_ (by assumption) ?_
      rotate_left 2
      focus (simp only [List.getElem?_toArray, List.getElem?_cons_succ, List.getElem?_cons_zero] <;> rfl)
      · refine Or.inl ⟨by rfl, ?_⟩
        intro w hSw
        (try dsimp only at hSw)
        go_simp <;> with_reducible rfl
      (try simp only [Act.put])
      refine wpAnyH_done (by decide +kernel) ?_ _
      refine NoPanic.normal ?_
      clear KEEP
      go_wp2_with fail
      go_meet
      case rel => exact ⟨rfl, ga8, z, rfl, HN_11.out, RZ_11.out, BB11.out, LEga8.out⟩
    case rest =>
    obtain ⟨rfl, g16, z9, rfl, hg, hr, hb, hge⟩ := hcut
    obtain ⟨w9, hw⟩ : ∃ x, x = wc := ⟨_, rfl⟩
    rw [← hw] at hg hr hb ⊢
    clear hw
    have nHB := Lib.hid (belG HB.out hb HB.out.size)
    have NEG3G16 := Lib.hid (show g3 ≠ g16 from by have h1 := Bx.lt G3.out; omega)
    have NEG16G3 := Lib.hid (NEG3G16.out.symm)
    have NEG8G16 := Lib.hid (show g8 ≠ g16 from by have h1 := Bx.lt G8.out; omega)
    have NEG16G8 := Lib.hid (NEG8G16.out.symm)
    have NEG10G16 := Lib.hid (show g10 ≠ g16 from by have h1 := Bx.lt G10.out; omega)
    have NEG16G10 := Lib.hid (NEG10G16.out.symm)
    have NEG12G16 := Lib.hid (show g12 ≠ g16 from by have h1 := Bx.lt G12.out; omega)
    have NEG16G12 := Lib.hid (NEG12G16.out.symm)
    have LEG16 := Lib.hid (show W.heap.size ≤ g16 from by have h1 := HB.out.size; omega)
    have nRA := Lib.hid (RA.out.go hb)
    have nRG8 := Lib.hid (RG8.out.go hb)
    have nRG10 := Lib.hid (RG10.out.go hb)
    have nRG12 := Lib.hid (RG12.out.go hb)
    have nRF := Lib.hid (RF.out.go hb)
    have nG3 := Lib.hid (Bx.go G3.out hb)
    have nG8 := Lib.hid (Bx.go G8.out hb)
    have nG10 := Lib.hid (Bx.go G10.out hb)
    have nG12 := Lib.hid (Bx.go G12.out hb)
    have G16 := Lib.hid hg
    have RG16 := Lib.hid hr
    clear hb hg hr hge
    clear HB RA RG8 RG10 RG12 RF G3 G8 G10 G12
    have HB := nHB
    have RA := nRA
    have RG8 := nRG8
    have RG10 := nRG10
    have RG12 := nRG12
    have RF := nRF
    have G3 := nG3
    have G8 := nG8
    have G10 := nG10
    have G12 := nG12
    clear nHB nRA nRG8 nRG10 nRG12 nRF nG3 nG8 nG10 nG12
    go_upto_region 15 with fail
    have BB0 := Lib.hid ((Below.refl w9.heap.size w9).drew)
    have KEEP := Lib.hid (fun w' (hW : Below w9.heap.size w9 w') => (show Below w9.heap.size w9 w' from hW))
    refine wp_region_noPanic ?_
    refine wp_region_held_drew (S := fun w' => Below w9.heap.size w9 w') (by kernel_rfl) (KEEP.out _ BB0.out) (fun hHeld => ?_)
    obtain ⟨wz0, hwz⟩ : ∃ x, x = w9.drew := ⟨_, rfl⟩
    rw [← hwz] at BB0 hHeld ⊢
    clear hwz
    refine wpAnyH_take (i := 0) (oi := ?_) (v := ?_) ?_ (by kernel_rfl) (by decide +kernel) (by decide +kernel) (fun _ _ _ h => h) ?_ (by assumption) ?_
    rotate_left 2
    focus (simp only [List.getElem?_toArray, List.getElem?_cons_zero] <;> rfl)
    · refine Or.inl ⟨by rfl, ?_⟩
      intro w hSw
      (try dsimp only at hSw)
      go_simp <;> with_reducible rfl
    (try simp only [Act.put, List.setIfInBounds_toArray, List.set_cons_zero, List.set_cons_succ])
    refine wpAnyH_take (i := 1) (oi := ?_) (v := ?_) ?_ (by kernel_rfl) (by decide +kernel) (by decide +kernel) (fun _ _ _ h => h) ?_ (by assumption) ?_
    rotate_left 2
    focus (simp only [List.getElem?_toArray, List.getElem?_cons_succ, List.getElem?_cons_zero] <;> rfl)
    · refine Or.inl ⟨by rfl, ?_⟩
      intro w hSw
      (try dsimp only at hSw)
      go_simp <;> with_reducible rfl
    (try simp only [Act.put, List.setIfInBounds_toArray, List.set_cons_zero, List.set_cons_succ])
    refine wpAnyH_take (i := 2) (oi := ?_) (v := ?_) ?_ (by kernel_rfl) (by decide +kernel) (by decide +kernel) (fun _ _ _ h => h) ?_ (by assumption) ?_
    rotate_left 2
    focus (simp only [List.getElem?_toArray, List.getElem?_cons_succ, List.getElem?_cons_zero] <;> rfl)
    · refine Or.inl ⟨by rfl, ?_⟩
      intro w hSw
      (try dsimp only at hSw)
      go_simp <;> with_reducible rfl
    (try simp only [Act.put, List.setIfInBounds_toArray, List.set_cons_zero, List.set_cons_succ])
    refine wpAnyH_take (i := 3) (oi := ?_) (v := ?_) ?_ (by kernel_rfl) (by decide +kernel) (by decide +kernel) (fun _ _ _ h => h) ?_ (by assumption) ?_
    rotate_left 2
    focus (simp only [List.getElem?_toArray, List.getElem?_cons_succ, List.getElem?_cons_zero] <;> rfl)
    · refine Or.inl ⟨by rfl, ?_⟩
      intro w hSw
      (try dsimp only at hSw)
      go_simp <;> with_reducible rfl
    (try simp only [Act.put, List.setIfInBounds_toArray, List.set_cons_zero, List.set_cons_succ])
    refine wpAnyH_take (i := 4) (oi := ?_) (v := ?_) ?_ (by kernel_rfl) (by decide +kernel) (by decide +kernel) (fun _ _ _ h => h) ?_ (by assumption) ?_
    rotate_left 2
    focus (simp only [List.getElem?_toArray, List.getElem?_cons_succ, List.getElem?_cons_zero] <;> rfl)
    · refine Or.inl ⟨by rfl, ?_⟩
      intro w hSw
      (try dsimp only at hSw)
      go_simp <;> with_reducible rfl
    (try simp only [Act.put, List.setIfInBounds_toArray, List.set_cons_zero, List.set_cons_succ])
    refine wpAnyH_take (i := 5) (oi := ?_) (v := ?_) ?_ (by kernel_rfl) (by decide +kernel) (by decide +kernel) (fun _ _ _ h => h) ?_ (by assumption) ?_
    rotate_left 2
    focus (simp only [List.getElem?_toArray, List.getElem?_cons_succ, List.getElem?_cons_zero] <;> rfl)
    · refine Or.inl ⟨by rfl, ?_⟩
      intro w hSw
      (try dsimp only at hSw)
      go_simp <;> with_reducible rfl
    (try simp only [Act.put, List.setIfInBounds_toArray, List.set_cons_zero, List.set_cons_succ])
    refine wpAnyH_take (i := 6) (oi := ?_) (v := ?_) ?_ (by kernel_rfl) (by decide +kernel) (by decide +kernel) (fun _ _ _ h => h) ?_ (by assumption) ?_
    rotate_left 2
    focus (simp only [List.getElem?_toArray, List.getElem?_cons_succ, List.getElem?_cons_zero] <;> rfl)
    · refine Or.inl ⟨by rfl, ?_⟩
      intro w hSw
      (try dsimp only at hSw)
      go_simp <;> with_reducible rfl
    (try simp only [Act.put, List.setIfInBounds_toArray, List.set_cons_zero, List.set_cons_succ])
    refine wpAnyH_take (i := 7) (oi := ?_) (v := ?_) ?_ (by kernel_rfl) (by decide +kernel) (by decide +kernel) (fun _ _ _ h => h) ?_ (by assumption) ?_
    rotate_left 2
    focus (simp only [List.getElem?_toArray, List.getElem?_cons_succ, List.getElem?_cons_zero] <;> rfl)
    · refine Or.inl ⟨by rfl, ?_⟩
      intro w hSw
      (try dsimp only at hSw)
      go_simp <;> with_reducible rfl
    (try simp only [Act.put, List.setIfInBounds_toArray, List.set_cons_zero, List.set_cons_succ])
    refine wpAnyH_take (i := 8) (oi := ?_) (v := ?_) ?_ (by kernel_rfl) (by decide +kernel) (by decide +kernel) (fun _ _ _ h => h) ?_ (by assumption) ?_
    rotate_left 2
    focus (simp only [List.getElem?_toArray, List.getElem?_cons_succ, List.getElem?_cons_zero] <;> rfl)
    · refine Or.inl ⟨by rfl, ?_⟩
      intro w hSw
      (try dsimp only at hSw)
      go_simp <;> with_reducible rfl
    (try simp only [Act.put, List.setIfInBounds_toArray, List.set_cons_zero, List.set_cons_succ])
    refine wpAnyH_take (i := 9) (oi := ?_) (v := ?_) ?_ (by kernel_rfl) (by decide +kernel) (by decide +kernel) (fun _ _ _ h => h) ?_ (by assumption) ?_
    rotate_left 2
    focus (simp only [List.getElem?_toArray, List.getElem?_cons_succ, List.getElem?_cons_zero] <;> rfl)
    · refine Or.inl ⟨by rfl, ?_⟩
      intro w hSw
      (try dsimp only at hSw)
      go_simp <;> with_reducible rfl
    (try simp only [Act.put, List.setIfInBounds_toArray, List.set_cons_zero, List.set_cons_succ])
    refine wpAnyH_take (i := 10) (oi := ?_) (v := .agg (ringC z6 Y)) ?_ (by kernel_rfl) (by decide +kernel) (by decide +kernel) (fun _ _ _ h => h) ?_ (by assumption) ?_
    rotate_left 1
    focus (simp only [List.getElem?_toArray, List.getElem?_cons_succ, List.getElem?_cons_zero] <;> rfl)
    · refine yieldsX (T := 26) ?_ (.tmp 10) ?_ ⟨g10, 0, none⟩ ?_ (ringC z6 Y) ?_
      focus rfl
      focus exact rfl
      focus exact rfl
      exact fun w hSw => run_loadX tyRing rfl (Bx.go G10.out hSw)
    (try simp only [Act.put, List.setIfInBounds_toArray, List.set_cons_zero, List.set_cons_succ])
    refine wpAnyH_take (i := 11) (oi := ?_) (v := .agg (ringC z7 Y)) ?_ (by kernel_rfl) (by decide +kernel) (by decide +kernel) (fun _ _ _ h => h) ?_ (by assumption) ?_
    rotate_left 1
    focus (simp only [List.getElem?_toArray, List.getElem?_cons_succ, List.getElem?_cons_zero] <;> rfl)
    · refine yieldsX (T := 26) ?_ (.tmp 12) ?_ ⟨g12, 0, none⟩ ?_ (ringC z7 Y) ?_
      focus rfl
      focus exact rfl
      focus exact rfl
      exact fun w hSw => run_loadX tyRing rfl (Bx.go G12.out hSw)
    (try simp only [Act.put, List.setIfInBounds_toArray, List.set_cons_zero, List.set_cons_succ])
    refine wpAnyH_ready (rs := [12]) (by decide +kernel) (by simp) ?_
    refine AllReadyH.cons rfl (fun K hK => ?_) AllReadyH.nil
    go_simp
    go_at_call 13
    refine (CS.out z6 z7 Y _ (RG10.out.go BB0.out) (RG12.out.go BB0.out)).mono ?_
    rintro e wz1 ⟨rfl, hb⟩
    have BB1 := Lib.hid (belG BB0.out hb BB0.out.size)
    clear hb
    refine hK.out _ _ (KEEP.out _ BB1.out) (fun hHeld => ?_)
    clear hK K
    (try simp only [Act.put, List.setIfInBounds_toArray, List.set_cons_zero, List.set_cons_succ])
    refine wpAnyH_take (i := 13) (oi := ?_) (v := ?_) ?_ (by kernel_rfl) (by decide +kernel) (by decide +kernel) (fun _ _ _ h => h) ?_ (by assumption) ?_
    rotate_left 2
    focus (simp only [List.getElem?_toArray, List.getElem?_cons_succ, List.getElem?_cons_zero] <;> rfl)
    · refine Or.inl ⟨by rfl, ?_⟩
      intro w hSw
      (try dsimp only at hSw)
      go_simp <;> with_reducible rfl
    (try simp only [Act.put, List.setIfInBounds_toArray, List.set_cons_zero, List.set_cons_succ])
    refine wpAnyH_take (i := 14) (oi := ?_) (v := ?_) ?_ (by kernel_rfl) (by decide +kernel) (by decide +kernel) (fun _ _ _ h => h) ?_ (by assumption) ?_
    rotate_left 2
    focus (simp only [List.getElem?_toArray, List.getElem?_cons_succ, List.getElem?_cons_zero] <;> rfl)
    · refine Or.inl ⟨by rfl, ?_⟩
      intro w hSw
      (try dsimp only at hSw)
      go_simp <;> with_reducible rfl
    (try simp only [Act.put, List.setIfInBounds_toArray, List.set_cons_zero, List.set_cons_succ])
    refine wpAnyH_take (i := 15) (oi := ?_) (v := ?_) ?_ (by kernel_rfl) (by decide +kernel) (by decide +kernel) (fun _ _ _ h => h) ?_ (by assumption) ?_
    rotate_left 2
    focus (simp only [List.getElem?_toArray, List.getElem?_cons_succ, List.getElem?_cons_zero] <;> rfl)
    · refine Or.inl ⟨by rfl, ?_⟩
      intro w hSw
      (try dsimp only at hSw)
      go_simp <;> with_reducible rfl
    (try simp only [Act.put, List.setIfInBounds_toArray, List.set_cons_zero, List.set_cons_succ])
    refine wpAnyH_take (i := 16) (oi := ?_) (v := ?_) ?_ (by kernel_rfl) (by decide +kernel) (by decide +kernel) (fun _ _ _ h => h) ?_ (by assumption) ?_
    rotate_left 2
    focus (simp only [List.getElem?_toArray, List.getElem?_cons_succ, List.getElem?_cons_zero] <;> rfl)
    · refine Or.inl ⟨by rfl, ?_⟩
      intro w hSw
      (try dsimp only at hSw)
      go_simp <;> with_reducible rfl
    (try simp only [Act.put, List.setIfInBounds_toArray, List.set_cons_zero, List.set_cons_succ])
    refine wpAnyH_take (i := 17) (oi := ?_) (v := ?_) ?_ (by kernel_rfl) (by decide +kernel) (by decide +kernel) (fun _ _ _ h => h) ?_ (by assumption) ?_
    rotate_left 2
    focus (simp only [List.getElem?_toArray, List.getElem?_cons_succ, List.getElem?_cons_zero] <;> rfl)
    · refine Or.inl ⟨by rfl, ?_⟩
      intro w hSw
      (try dsimp only at hSw)
      go_simp <;> with_reducible rfl
    (try simp only [Act.put, List.setIfInBounds_toArray, List.set_cons_zero, List.set_cons_succ])
    refine wpAnyH_take (i := 18) (oi := ?_) (v := ?_) ?_ (by kernel_rfl) (by decide +kernel) (by decide +kernel) (fun _ _ _ h => h) ?_ (by assumption) ?_
    rotate_left 2
    focus (simp only [List.getElem?_toArray, List.getElem?_cons_succ, List.getElem?_cons_zero] <;> rfl)
    · refine Or.inl ⟨by rfl, ?_⟩
      intro w hSw
      (try dsimp only at hSw)
      go_simp <;> with_reducible rfl
    (try simp only [Act.put, List.setIfInBounds_toArray, List.set_cons_zero, List.set_cons_succ])
    refine wpAnyH_take (i := 19) (oi := ?_) (v := ?_) ?_ (by kernel_rfl) (by decide +kernel) (by decide +kernel) (fun _ _ _ h => h) ?_ (by assumption) ?_
    rotate_left 2
    focus (simp only [List.getElem?_toArray, List.getElem?_cons_succ, List.getElem?_cons_zero] <;> rfl)
    · refine Or.inl ⟨by rfl, ?_⟩
      intro w hSw
      (try dsimp only at hSw)
      go_simp <;> with_reducible rfl
    (try simp only [Act.put, List.setIfInBounds_toArray, List.set_cons_zero, List.set_cons_succ])
    refine wpAnyH_ready (rs := [20]) (by decide +kernel) (by simp) ?_
    refine AllReadyH.cons rfl (fun K hK => ?_) AllReadyH.nil
    go_simp
    go_at_call 29
    refine (KB.out _).mono ?_
    rintro e wz2 ⟨⟨yk, rfl, hk⟩, hb⟩
    have BB2 := Lib.hid (belG BB1.out hb BB1.out.size)
    have KY_2 := Lib.hid hk
    clear hk
    clear hb
    refine hK.out _ _ (KEEP.out _ BB2.out) (fun hHeld => ?_)
    clear hK K
    (try simp only [Act.put, List.setIfInBounds_toArray, List.set_cons_zero, List.set_cons_succ])
    refine wpAnyH_ready (rs := [21]) (by decide +kernel) (by simp) ?_
    refine AllReadyH.cons rfl (fun K hK => ?_) AllReadyH.nil
    go_simp
    go_at_call 20
    refine (CT.out fk yk _ (RF.out.go BB2.out) KY_2.out).mono ?_
    rintro e wz3 ⟨rfl, hw⟩
    obtain rfl := hw
    refine hK.out _ _ (KEEP.out _ BB2.out) (fun hHeld => ?_)
    clear hK K
    (try simp only [Act.put, List.setIfInBounds_toArray, List.set_cons_zero, List.set_cons_succ])
    refine wpAnyH_take (i := 22) (oi := ?_) (v := ?_) ?_ (by kernel_rfl) (by decide +kernel) (by decide +kernel) (fun _ _ _ h => h) ?_ (by assumption) ?_
    rotate_left 2
    focus (simp only [List.getElem?_toArray, List.getElem?_cons_succ, List.getElem?_cons_zero] <;> rfl)
    · refine Or.inl ⟨by rfl, ?_⟩
      intro w hSw
      (try dsimp only at hSw)
      go_simp <;> with_reducible rfl
    (try simp only [Act.put, List.setIfInBounds_toArray, List.set_cons_zero, List.set_cons_succ])
    refine wpAnyH_take (i := 23) (oi := ?_) (v := ?_) ?_ (by kernel_rfl) (by decide +kernel) (by decide +kernel) (fun _ _ _ h => h) ?_ (by assumption) ?_
    rotate_left 2
    focus (simp only [List.getElem?_toArray, List.getElem?_cons_succ, List.getElem?_cons_zero] <;> rfl)
    · refine Or.inl ⟨by rfl, ?_⟩
      intro w hSw
      (try dsimp only at hSw)
      go_simp <;> with_reducible rfl
    (try simp only [Act.put, List.setIfInBounds_toArray, List.set_cons_zero, List.set_cons_succ])
    refine wpAnyH_take (i := 24) (oi := ?_) (v := ?_) ?_ (by kernel_rfl) (by decide +kernel) (by decide +kernel) (fun _ _ _ h => h) ?_ (by assumption) ?_
    rotate_left 2
    focus (simp only [List.getElem?_toArray, List.getElem?_cons_succ, List.getElem?_cons_zero] <;> rfl)
    · refine Or.inl ⟨by rfl, ?_⟩
      intro w hSw
      (try dsimp only at hSw)
      go_simp <;> with_reducible rfl
    (try simp only [Act.put, List.setIfInBounds_toArray, List.set_cons_zero, List.set_cons_succ])
    refine wpAnyH_take (i := 25) (oi := ?_) (v := ?_) ?_ (by kernel_rfl) (by decide +kernel) (by decide +kernel) (fun _ _ _ h => h) ?_ (by assumption) ?_
    rotate_left 2
    focus (simp only [List.getElem?_toArray, List.getElem?_cons_succ, List.getElem?_cons_zero] <;> rfl)
    · refine Or.inl ⟨by rfl, ?_⟩
      intro w hSw
      (try dsimp only at hSw)
      go_simp <;> with_reducible rfl
    (try simp only [Act.put, List.setIfInBounds_toArray, List.set_cons_zero, List.set_cons_succ])
    refine wpAnyH_take (i := 26) (oi := ?_) (v := ?_) ?_ (by kernel_rfl) (by decide +kernel) (by decide +kernel) (fun _ _ _ h => h) ?_ (by assumption) ?_
    rotate_left 2
    focus (simp only [List.getElem?_toArray, List.getElem?_cons_succ, List.getElem?_cons_zero] <;> rfl)
    · refine Or.inl ⟨by rfl, ?_⟩
      intro w hSw
      (try dsimp only at hSw)
      go_simp <;> with_reducible rfl
    (try simp only [Act.put, List.setIfInBounds_toArray, List.set_cons_zero, List.set_cons_succ])
    refine wpAnyH_take (i := 27) (oi := ?_) (v := ?_) ?_ (by kernel_rfl) (by decide +kernel) (by decide +kernel) (fun _ _ _ h => h) ?_ (by assumption) ?_
    rotate_left 2
    focus (simp only [List.getElem?_toArray, List.getElem?_cons_succ, List.getElem?_cons_zero] <;> rfl)
    · refine Or.inl ⟨by rfl, ?_⟩
      intro w hSw
      have hcell := (Bx.go G3.out hSw).cell (HCN.out)
      go_simp <;> with_reducible rfl
    (try simp only [Act.put, List.setIfInBounds_toArray, List.set_cons_zero, List.set_cons_succ])
    refine wpAnyH_take (i := 28) (oi := ?_) (v := ?_) ?_ (by kernel_rfl) (by decide +kernel) (by decide +kernel) (fun _ _ _ h => h) ?_ (by assumption) ?_
    rotate_left 2
    focus (simp only [List.getElem?_toArray, List.getElem?_cons_succ, List.getElem?_cons_zero] <;> rfl)
    · refine Or.inl ⟨by rfl, ?_⟩
      intro w hSw
      (try dsimp only at hSw)
      go_simp <;> with_reducible rfl
    (try simp only [Act.put, List.setIfInBounds_toArray, List.set_cons_zero, List.set_cons_succ])
    refine wpAnyH_take (i := 29) (oi := ?_) (v := ?_) ?_ (by kernel_rfl) (by decide +kernel) (by decide +kernel) (fun _ _ _ h => h) ?_ (by assumption) ?_
    rotate_left 2
    focus (simp only [List.getElem?_toArray, List.getElem?_cons_succ, List.getElem?_cons_zero] <;> rfl)
    · refine Or.inl ⟨by rfl, ?_⟩
      intro w hSw
      (try dsimp only at hSw)
      go_simp <;> with_reducible rfl
    (try simp only [Act.put, List.setIfInBounds_toArray, List.set_cons_zero, List.set_cons_succ])
    refine wpAnyH_take (i := 30) (oi := ?_) (v := ?_) ?_ (by kernel_rfl) (by decide +kernel) (by decide +kernel) (fun _ _ _ h => h) ?_ (by assumption) ?_
    rotate_left 2
    focus (simp only [List.getElem?_toArray, List.getElem?_cons_succ, List.getElem?_cons_zero] <;> rfl)
    · refine Or.inl ⟨by rfl, ?_⟩
      intro w hSw
      (try dsimp only at hSw)
      go_simp <;> with_reducible rfl
    (try simp only [Act.put, List.setIfInBounds_toArray, List.set_cons_zero, List.set_cons_succ])
    refine wpAnyH_take (i := 31) (oi := ?_) (v := ?_) ?_ (by kernel_rfl) (by decide +kernel) (by decide +kernel) (fun _ _ _ h => h) ?_ (by assumption) ?_
    rotate_left 2
    focus (simp only [List.getElem?_toArray, List.getElem?_cons_succ, List.getElem?_cons_zero] <;> rfl)
    · refine Or.inl ⟨by rfl, ?_⟩
      intro w hSw
      (try dsimp only at hSw)
      go_simp <;> with_reducible rfl
    (try simp only [Act.put, List.setIfInBounds_toArray, List.set_cons_zero, List.set_cons_succ])
    refine wpAnyH_take (i := 32) (oi := ?_) (v := ?_) ?_ (by kernel_rfl) (by decide +kernel) (by decide +kernel) (fun _ _ _ h => h) ?_ (by assumption) ?_
    rotate_left 2
    focus (simp only [List.getElem?_toArray, List.getElem?_cons_succ, List.getElem?_cons_zero] <;> rfl)
    · refine Or.inl ⟨by rfl, ?_⟩
      intro w hSw
      (try dsimp only at hSw)
      go_simp <;> with_reducible rfl
    (try simp only [Act.put, List.setIfInBounds_toArray, List.set_cons_zero, List.set_cons_succ])
    refine wpAnyH_take (i := 33) (oi := ?_) (v := ?_) ?_ (by kernel_rfl) (by decide +kernel) (by decide +kernel) (fun _ _ _ h => h) ?_ (by assumption) ?_
    rotate_left 2
    focus (simp only [List.getElem?_toArray, List.getElem?_cons_succ, List.getElem?_cons_zero] <;> rfl)
    · refine Or.inl ⟨by rfl, ?_⟩
      intro w hSw
      (try dsimp only at hSw)
      go_simp <;> with_reducible rfl
    (try simp only [Act.put, List.setIfInBounds_toArray, List.set_cons_zero, List.set_cons_succ])
    refine wpAnyH_take (i := 34) (oi := ?_) (v := ?_) ?_ (by kernel_rfl) (by decide +kernel) (by decide +kernel) (fun _ _ _ h => h) ?_ (by assumption) ?_
    rotate_left 2
    focus (simp only [List.getElem?_toArray, List.getElem?_cons_succ, List.getElem?_cons_zero] <;> rfl)
    · refine Or.inl ⟨by rfl, ?_⟩
      intro w hSw
      (try dsimp only at hSw)
      go_simp <;> with_reducible rfl
    (try simp only [Act.put, List.setIfInBounds_toArray, List.set_cons_zero, List.set_cons_succ])
    refine wpAnyH_take (i := 35) (oi := ?_) (v := .agg (ringC z6 Y)) ?_ (by kernel_rfl) (by decide +kernel) (by decide +kernel) (fun _ _ _ h => h) ?_ (by assumption) ?_
    rotate_left 1
    focus (simp only [List.getElem?_toArray, List.getElem?_cons_succ, List.getElem?_cons_zero] <;> rfl)
    · refine yieldsX (T := 26) ?_ (.tmp 10) ?_ ⟨g10, 0, none⟩ ?_ (ringC z6 Y) ?_
      focus rfl
      focus exact rfl
      focus exact rfl
      exact fun w hSw => run_loadX tyRing rfl (Bx.go G10.out hSw)
    (try simp only [Act.put, List.setIfInBounds_toArray, List.set_cons_zero, List.set_cons_succ])
    refine wpAnyH_take (i := 37) (oi := ?_) (v := .agg (ringC z5 X)) ?_ (by kernel_rfl) (by decide +kernel) (by decide +kernel) (fun _ _ _ h => h) ?_ (by assumption) ?_
    rotate_left 1
    focus (simp only [List.getElem?_toArray, List.getElem?_cons_succ, List.getElem?_cons_zero] <;> rfl)
    · refine yieldsX (T := 26) ?_ (.tmp 8) ?_ ⟨g8, 0, none⟩ ?_ (ringC z5 X) ?_
      focus rfl
      focus exact rfl
      focus exact rfl
      exact fun w hSw => run_loadX tyRing rfl (Bx.go G8.out hSw)
    (try simp only [Act.put, List.setIfInBounds_toArray, List.set_cons_zero, List.set_cons_succ])
    refine wpAnyH_ready (rs := [36]) (by decide +kernel) (by simp) ?_
    refine AllReadyH.cons rfl (fun K hK => ?_) AllReadyH.nil
    go_simp
    go_at_call 25
    refine (CW.out z6 _ (RG10.out.go BB2.out)).mono ?_
    rintro e wz4 ⟨⟨d1, rfl, hk⟩, hb⟩
    have BB4 := Lib.hid (belG BB2.out hb BB2.out.size)
    have KY_4 := Lib.hid (KY_2.out.go hb)
    have RD_4 := Lib.hid hk
    clear hk
    clear hb
    refine hK.out _ _ (KEEP.out _ BB4.out) (fun hHeld => ?_)
    clear hK K
    (try simp only [Act.put, List.setIfInBounds_toArray, List.set_cons_zero, List.set_cons_succ])
    refine wpAnyH_ready (rs := [38]) (by decide +kernel) (by simp) ?_
    refine AllReadyH.cons rfl (fun K hK => ?_) AllReadyH.nil
    go_simp
    go_at_call 25
    refine (CV.out z5 _ (RG8.out.go BB4.out)).mono ?_
    rintro e wz5 ⟨⟨d2, rfl, hk⟩, hb⟩
    have BB5 := Lib.hid (belG BB4.out hb BB4.out.size)
    have KY_5 := Lib.hid (KY_4.out.go hb)
    have RD_5 := Lib.hid (RD_4.out.go hb)
    have RE_5 := Lib.hid hk
    clear hk
    clear hb
    refine hK.out _ _ (KEEP.out _ BB5.out) (fun hHeld => ?_)
    clear hK K
    (try simp only [Act.put, List.setIfInBounds_toArray, List.set_cons_zero, List.set_cons_succ])
    refine wpAnyH_ready (rs := [39]) (by decide +kernel) (by simp) ?_
    refine AllReadyH.cons rfl (fun K hK => ?_) AllReadyH.nil
    go_simp
    go_at_call 13
    refine (CS.out d1 d2 D _ RD_5.out RE_5.out).mono ?_
    rintro e wz6 ⟨rfl, hb⟩
    have BB6 := Lib.hid (belG BB5.out hb BB5.out.size)
    have KY_6 := Lib.hid (KY_5.out.go hb)
    have RD_6 := Lib.hid (RD_5.out.go hb)
    have RE_6 := Lib.hid (RE_5.out.go hb)
    clear hb
    refine hK.out _ _ (KEEP.out _ BB6.out) (fun hHeld => ?_)
    clear hK K
    (try simp only [Act.put, List.setIfInBounds_toArray, List.set_cons_zero, List.set_cons_succ])
    refine wpAnyH_take (i := 40) (oi := ?_) (v := ?_) ?_ (by kernel_rfl) (by decide +kernel) (by decide +kernel) (fun _ _ _ h => h) ?_ (by assumption) ?_
    rotate_left 2
    focus (simp only [List.getElem?_toArray, List.getElem?_cons_succ, List.getElem?_cons_zero] <;> rfl)
    · refine Or.inl ⟨by rfl, ?_⟩
      intro w hSw
      (try dsimp only at hSw)
      go_simp <;> with_reducible rfl
    (try simp only [Act.put, List.setIfInBounds_toArray, List.set_cons_zero, List.set_cons_succ])
    refine wpAnyH_take (i := 41) (oi := ?_) (v := ?_) ?_ (by kernel_rfl) (by decide +kernel) (by decide +kernel) (fun _ _ _ h => h) ?_ (by assumption) ?_
    rotate_left 2
    focus (simp only [List.getElem?_toArray, List.getElem?_cons_succ, List.getElem?_cons_zero] <;> rfl)
    · refine Or.inl ⟨by rfl, ?_⟩
      intro w hSw
      (try dsimp only at hSw)
      go_simp <;> with_reducible rfl
    (try simp only [Act.put, List.setIfInBounds_toArray, List.set_cons_zero, List.set_cons_succ])
    refine wpAnyH_done (by decide +kernel) ?_ _
    refine NoPanic.normal ?_
    clear KEEP
    obtain ⟨w10, hw⟩ : ∃ x, x = wz6 := ⟨_, rfl⟩
    have hb : Below w9.heap.size w9 w10 := by rw [hw]; exact BB6.out
    rw [← hw]
    have nHB := Lib.hid (belG HB.out hb HB.out.size)
    have nRA := Lib.hid (RA.out.go hb)
    have nRG8 := Lib.hid (RG8.out.go hb)
    have nRG10 := Lib.hid (RG10.out.go hb)
    have nRG12 := Lib.hid (RG12.out.go hb)
    have nRF := Lib.hid (RF.out.go hb)
    have nRG16 := Lib.hid (RG16.out.go hb)
    have nG3 := Lib.hid (Bx.go G3.out hb)
    have nG8 := Lib.hid (Bx.go G8.out hb)
    have nG10 := Lib.hid (Bx.go G10.out hb)
    have nG12 := Lib.hid (Bx.go G12.out hb)
    have nG16 := Lib.hid (Bx.go G16.out hb)
    clear hb hw
    clear HB RA RG8 RG10 RG12 RF RG16 G3 G8 G10 G12 G16
    have HB := nHB
    have RA := nRA
    have RG8 := nRG8
    have RG10 := nRG10
    have RG12 := nRG12
    have RF := nRF
    have RG16 := nRG16
    have G3 := nG3
    have G8 := nG8
    have G10 := nG10
    have G12 := nG12
    have G16 := nG16
    clear nHB nRA nRG8 nRG10 nRG12 nRF nRG16 nG3 nG8 nG10 nG12 nG16
    go_wp2_with fail
    go_ret
    exact ⟨by first | rfl | simp, HB.out⟩
end Go.Proofs.Ytgnccfcdonoegaa
