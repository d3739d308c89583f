
/- Package ring: Same, empty. -/
import Derived.Test.YtgnccfcdonoegaaJ06
namespace Go.Proofs.Ytgnccfcdonoegaa
open Go.RowKit

set_option maxRecDepth 100000 in
theorem gensI_any {C : Array Value} {x : Wg} {r : Rg} (h : IsR C x r) (W : World) : Calls Try.prog 41 #[.agg C] W fun e W' => e = .returned (.agg (gensC x r)) ∧ Below W.heap.size W W' := by
  rw [h.eq]
  exact gens_any x r W
set_option maxRecDepth 100000 in
theorem equalK_yes {x y : Wk} {p q : List UInt8} (h : p = q) (w : World) (ha : KeyR w x p) (hb : KeyR w y q) :
    Calls Try.prog 42 #[.slice x.1 p.length x.2, .slice y.1 q.length y.2] w fun e w' => e = .returned (.bool true) ∧ w = w' := by
  have k := equalK_any x y p q w ha hb
  rw [decide_eq_true h] at k
  exact k
set_option maxRecDepth 100000 in
theorem equalK_no {x y : Wk} {p q : List UInt8} (h : p ≠ q) (w : World) (ha : KeyR w x p) (hb : KeyR w y q) :
    Calls Try.prog 42 #[.slice x.1 p.length x.2, .slice y.1 q.length y.2] w fun e w' => e = .returned (.bool false) ∧ w = w' := by
  have k := equalK_any x y p q w ha hb
  rw [decide_eq_false h] at k
  exact k
set_option maxRecDepth 100000 in
theorem index_g0 (a b c d e f : Value) (w : World) : (Instr.index 68 (.agg #[a, b, c, d, e, f]) (.int .i64 0)).run Try.prog w = .ok (.agg #[a, b]) w := by kernel_rfl
set_option maxRecDepth 100000 in
theorem index_g1 (a b c d e f : Value) (w : World) : (Instr.index 68 (.agg #[a, b, c, d, e, f]) (.int .i64 1)).run Try.prog w = .ok (.agg #[c, d]) w := by kernel_rfl
set_option maxRecDepth 100000 in
theorem index_g2 (a b c d e f : Value) (w : World) : (Instr.index 68 (.agg #[a, b, c, d, e, f]) (.int .i64 2)).run Try.prog w = .ok (.agg #[e, f]) w := by kernel_rfl
/-- the generations ahead of the n-th are the same -/
def EqTo (r s : Rg) (n : Int) : Prop := (0 < n → r.old = s.old) ∧ (1 < n → r.cur = s.cur) ∧ (2 < n → r.pend = s.pend)
set_option maxRecDepth 100000 in
theorem gensC_get (x : Wg) (r : Rg) : (gensC x r)[0]? = some (.int .i64 r.old.no) ∧ (gensC x r)[1]? = some (.slice x.old.1 r.old.key.length x.old.2) ∧ (gensC x r)[2]? = some (.int .i64 r.cur.no) ∧ (gensC x r)[3]? = some (.slice x.cur.1 r.cur.key.length x.cur.2) ∧ (gensC x r)[4]? = some (.int .i64 r.pend.no) ∧ (gensC x r)[5]? = some (.slice x.pend.1 r.pend.key.length x.pend.2) := ⟨rfl, rfl, rfl, rfl, rfl, rfl⟩
set_option maxRecDepth 100000 in
set_option maxHeartbeats 8000000 in
theorem rSameL_any (x y : Wg) (r s : Rg) (W : World) (hr : RingR W x r) (hs : RingR W y s) : Calls Try.prog 15 #[.agg (ringC x r), .agg (ringC y s)] W fun e W' => e = .returned (.bool (decide (r = s))) ∧ Below W.heap.size W W' := by
  obtain ⟨D, hD⟩ : ∃ D, D = decide (r = s) := ⟨_, rfl⟩
  rw [← hD]
  have HD := Lib.hid (show D = true ↔ (r.old = s.old ∧ r.cur = s.cur ∧ r.pend = s.pend ∧ r.left = s.left ∧ r.top = s.top) from by
    rw [hD, decide_eq_true_iff]
    exact ⟨fun e => by rw [e]; exact ⟨rfl, rfl, rfl, rfl, rfl⟩, fun e => Rg.ext' e.2.1 e.1 e.2.2.1 e.2.2.2.1 e.2.2.2.2⟩)
  have HF := Lib.hid (show (D = true → False) → D = false from fun h => by
    cases D with
    | false => rfl
    | true => exact (h rfl).elim)
  clear hD
  obtain ⟨CA, hA⟩ := isR x r
  obtain ⟨CB, hB⟩ := isR y s
  obtain ⟨V, hV, hb, hg, hg2, hsz⟩ := bx2 W 26 26 CA CB
  rw [← hA.eq, ← hB.eq]
  have HA := Lib.hid hA
  have HBB := Lib.hid hB
  have za := hA.size
  have zb := hB.size
  have la := hA.bl
  have lb := hB.bl
  rw [za] at la
  rw [zb] at lb
  have HB := Lib.hid hb
  have HG := Lib.hid hg
  have HJ := Lib.hid hg2
  have HV := Lib.hid hV
  have HKA := Lib.hid (hr.go hb)
  have HKB := Lib.hid (hs.go hb)
  clear hA hB hV hb hg hg2 hr hs hsz
  go_enter Try.func15, Try.ntmps15
  go_upto_region 1 with (fail)
  rw [← HV.out]
  clear HV
  go_wp2_with (refine loadX (.tmp 3) (W.heap.size + 1) CB tyRing HBB.out.size HJ.out rfl rfl rfl ?_)
  refine (gensI_any HBB.out _).mono ?_
  rintro e w1 ⟨rfl, hb⟩
  have HB1 := Lib.hid (belG HB.out hb HB.out.size)
  have HG1 := Lib.hid (Bx.go HG.out hb)
  have HJ1 := Lib.hid (Bx.go HJ.out hb)
  have HKA1 := Lib.hid (HKA.out.go hb)
  have HKB1 := Lib.hid (HKB.out.go hb)
  clear hb HB HG HJ HKA HKB
  obtain ⟨GB, hGB⟩ : ∃ G, G = gensC y s := ⟨_, rfl⟩
  rw [← hGB]
  have HGB := Lib.hid hGB
  have zg : GB.size = 6 := by rw [hGB]; rfl
  have og : GB.all (·.oneCell') = true := by rw [hGB]; exact gensC_one y s
  have OG := Lib.hid og
  clear hGB og
  obtain ⟨V1, hV1⟩ : ∃ x, x = w1.alloc (.cells GB 68) := ⟨_, rfl⟩
  obtain ⟨g5, hg5⟩ : ∃ g, g = w1.heap.size := ⟨_, rfl⟩
  have ha := (Below.refl w1.heap.size w1).alloc (Nat.le_refl _) (.cells GB 68)
  have hx := Bx.new w1 68 GB
  rw [← hV1] at ha hx
  rw [← hg5] at hx
  have HB := Lib.hid (belG HB1.out ha HB1.out.size)
  have HG := Lib.hid (Bx.go HG1.out ha)
  have HJ := Lib.hid (Bx.go HJ1.out ha)
  have HKA := Lib.hid (HKA1.out.go ha)
  have HKB := Lib.hid (HKB1.out.go ha)
  have H5 := Lib.hid hx
  have HV1 := Lib.hid hV1
  have HG5 := Lib.hid hg5
  clear hV1 hg5 ha hx HB1 HG1 HJ1 HKA1 HKB1
  go_upto_region 2 with (refine storeX (.tmp 5) (.tmp 10) _ GB _ tyG3 zg OG.out (heap_alloc_new _ _) rfl rfl rfl rfl rfl ?_; rw [setRowG_fold])
  rw [← HV1.out]
  (try rw [← HG5.out])
  clear HV1 HG5
  go_wp2_with (refine loadX (.tmp 2) W.heap.size CA tyRing HA.out.size HG.out rfl rfl rfl ?_)
  refine (gensI_any HA.out _).mono ?_
  rintro e w1 ⟨rfl, hb⟩
  have HB1 := Lib.hid (belG HB.out hb HB.out.size)
  have HG1 := Lib.hid (Bx.go HG.out hb)
  have HJ1 := Lib.hid (Bx.go HJ.out hb)
  have H51 := Lib.hid (Bx.go H5.out hb)
  have HKA1 := Lib.hid (HKA.out.go hb)
  have HKB1 := Lib.hid (HKB.out.go hb)
  clear hb HB HG HJ HKA HKB H5
  unfold gensC
  go_wp2_with fail
  go_loopw [14] (fun i wr => ∃ n : Int, i = .int .i64 n ∧ (n = 0 ∨ n = 1 ∨ n = 2 ∨ n = 3) ∧ Hid (EqTo r s n) ∧ Hid (Bx wr g5 68 GB) ∧ Hid (Bx wr W.heap.size 26 CA) ∧ Hid (Bx wr (W.heap.size + 1) 26 CB) ∧ Hid (RingR wr x r) ∧ Hid (RingR wr y s) ∧ Hid (Below W.heap.size W wr)) (fun i _ => 3 - (intOf i).toNat)
  case atStart => exact ⟨0, rfl, .inl rfl, Lib.hid ⟨fun h => absurd h (by decide), fun h => absurd h (by decide), fun h => absurd h (by decide)⟩, H51, HG1, HJ1, HKA1, HKB1, HB1⟩
  case round =>
    clear H51 HG1 HJ1 HKA1 HKB1 HB1
    obtain ⟨n, rfl, hn, HE, H5, HG, HJ, HKA, HKB, HB⟩ := hrel
    rcases hn with rfl | rfl | rfl | rfl
    · obtain ⟨V7, hV7⟩ : ∃ z, z = wr.alloc (.cells #[.int .i64 r.old.no, .slice x.old.1 r.old.key.length x.old.2] 24) := ⟨_, rfl⟩
      obtain ⟨g7, hg7⟩ : ∃ g, g = wr.heap.size := ⟨_, rfl⟩
      have ha := (Below.refl wr.heap.size wr).alloc (Nat.le_refl _) (.cells (genC x.old r.old) 24)
      have hx := Bx.new wr 24 (genC x.old r.old)
      rw [show wr.alloc (.cells (genC x.old r.old) 24) = V7 from hV7.symm] at ha hx
      rw [← hg7] at hx
      have nHB := Lib.hid (belG HB.out ha HB.out.size)
      have nHG := Lib.hid (Bx.go HG.out ha)
      have nHJ := Lib.hid (Bx.go HJ.out ha)
      have nH5 := Lib.hid (Bx.go H5.out ha)
      have nHKA := Lib.hid (HKA.out.go ha)
      have nHKB := Lib.hid (HKB.out.go ha)
      have H7 := Lib.hid hx
      have KA := Lib.hid nHKA.out.2.1
      have KB := Lib.hid nHKB.out.2.1
      have HV7 := Lib.hid hV7
      have HG7 := Lib.hid hg7
      clear hV7 hg7 ha hx HB HG HJ H5 HKA HKB
      have HB := nHB
      have HG := nHG
      have HJ := nHJ
      have H5 := nH5
      have HKA := nHKA
      have HKB := nHKB
      clear nHB nHG nHJ nH5 nHKA nHKB
      have hix := fun w => index_g0 (.int .i64 r.old.no) (.slice x.old.1 r.old.key.length x.old.2) (.int .i64 r.cur.no) (.slice x.cur.1 r.cur.key.length x.cur.2) (.int .i64 r.pend.no) (.slice x.pend.1 r.pend.key.length x.pend.2) w
      go_upto_region 5 with (fail)
      clear hix
      rw [← HV7.out]
      (try rw [← HG7.out])
      clear HV7 HG7
      by_cases h1 : r.old.no = s.old.no
      · have b1 : (r.old.no == s.old.no) = true := by rw [h1]; exact beq_self_eq_true _
        have b2 : (r.old.no != s.old.no) = false := by rw [bne, b1]; rfl
        by_cases h2 : r.old.key = s.old.key
        · have HQ := Lib.hid (Gn.ext' h1 h2)
          have HK := Lib.hid h2
          clear h1 h2
          clear HF HD
          have BB0 := Lib.hid (HB.out.drew)
          have KEEP := Lib.hid (fun w' (hW : Below W.heap.size W w') (hG : Bx w' g7 24 (genC x.old r.old)) (hF : Bx w' g5 68 GB) => (show Below W.heap.size W w' ∧ Bx w' g7 24 (genC x.old r.old) ∧ Bx w' g5 68 GB from ⟨hW, hG, hF⟩))
          have HG_0 := Lib.hid (Bx.drew H7.out)
          have HF_0 := Lib.hid (Bx.drew H5.out)
          have HX_0 := Lib.hid (Bx.drew HG.out)
          have HY_0 := Lib.hid (Bx.drew HJ.out)
          have KA_0 := Lib.hid (KA.out.go ((Below.refl V7.heap.size V7).drew))
          have KB_0 := Lib.hid (KB.out.go ((Below.refl V7.heap.size V7).drew))
          have RX_0 := Lib.hid (HKA.out.go ((Below.refl V7.heap.size V7).drew))
          have RY_0 := Lib.hid (HKB.out.go ((Below.refl V7.heap.size V7).drew))
          refine wp_region_noPanic ?_
          refine wp_region_held_drew (S := fun w' => Below W.heap.size W w' ∧ Bx w' g7 24 (genC x.old r.old) ∧ Bx w' g5 68 GB) (by kernel_rfl) (KEEP.out _ BB0.out HG_0.out HF_0.out) (fun hHeld => ?_)
          obtain ⟨wz0, hwz⟩ : ∃ x, x = V7.drew := ⟨_, rfl⟩
          rw [← hwz] at BB0 hHeld HG_0 HF_0 HX_0 HY_0 KA_0 KB_0 RX_0 RY_0 ⊢
          clear hwz
          refine wpAnyH_take (i := 0) (oi := ?_) (v := ?_) ?_ (by kernel_rfl) (by decide +kernel) (by decide +kernel) (fun _ _ _ h => h) ?_ (by assumption) ?_
          rotate_left 2
          focus (simp only [List.getElem?_toArray, List.getElem?_cons_zero] <;> rfl)
          · refine Or.inl ⟨by rfl, ?_⟩
            intro w hSw
            (try dsimp only at hSw)
            go_simp <;> with_reducible rfl
          (try simp only [Act.put, List.setIfInBounds_toArray, List.set_cons_zero, List.set_cons_succ])
          refine wpAnyH_take (i := 2) (oi := ?_) (v := ?_) ?_ (by kernel_rfl) (by decide +kernel) (by decide +kernel) (fun _ _ _ h => h) ?_ (by assumption) ?_
          rotate_left 2
          focus (simp only [List.getElem?_toArray, List.getElem?_cons_succ, List.getElem?_cons_zero] <;> rfl)
          · refine Or.inl ⟨by rfl, ?_⟩
            intro w hSw
            (try dsimp only at hSw)
            go_simp <;> with_reducible rfl
          (try simp only [Act.put, List.setIfInBounds_toArray, List.set_cons_zero, List.set_cons_succ])
          refine wpAnyH_take (i := 1) (oi := ?_) (v := ?_) ?_ (by kernel_rfl) (by decide +kernel) (by decide +kernel) (fun _ _ _ h => h) ?_ (by assumption) ?_
          rotate_left 2
          focus (simp only [List.getElem?_toArray, List.getElem?_cons_succ, List.getElem?_cons_zero] <;> rfl)
          · refine Or.inl ⟨by rfl, ?_⟩
            intro w hSw
            have hcell := (hSw.2.1).cell (genC_cn _ _)
            clear hSw
            go_simp <;> with_reducible rfl
          (try simp only [Act.put, List.setIfInBounds_toArray, List.set_cons_zero, List.set_cons_succ])
          refine wpAnyH_take (i := 3) (oi := ?_) (v := ?_) ?_ (by kernel_rfl) (by decide +kernel) (by decide +kernel) (fun _ _ _ h => h) ?_ (by assumption) ?_
          rotate_left 2
          focus (simp only [List.getElem?_toArray, List.getElem?_cons_succ, List.getElem?_cons_zero] <;> rfl)
          · refine Or.inl ⟨by rfl, ?_⟩
            intro w hSw
            (try dsimp only at hSw)
            go_simp <;> with_reducible rfl
          (try simp only [Act.put, List.setIfInBounds_toArray, List.set_cons_zero, List.set_cons_succ])
          refine wpAnyH_take (i := 4) (oi := ?_) (v := ?_) ?_ (by kernel_rfl) (by decide +kernel) (by decide +kernel) (fun _ _ _ h => h) ?_ (by assumption) ?_
          rotate_left 2
          focus (simp only [List.getElem?_toArray, List.getElem?_cons_succ, List.getElem?_cons_zero] <;> rfl)
          · refine Or.inl ⟨by rfl, ?_⟩
            intro w hSw
            (try dsimp only at hSw)
            go_simp <;> with_reducible rfl
          (try simp only [Act.put, List.setIfInBounds_toArray, List.set_cons_zero, List.set_cons_succ])
          refine wpAnyH_take (i := 5) (oi := ?_) (v := ?_) ?_ (by kernel_rfl) (by decide +kernel) (by decide +kernel) (fun _ _ _ h => h) ?_ (by assumption) ?_
          rotate_left 2
          focus (simp only [List.getElem?_toArray, List.getElem?_cons_succ, List.getElem?_cons_zero] <;> rfl)
          · refine Or.inl ⟨by rfl, ?_⟩
            intro w hSw
            have hcell := (hSw.2.2).cell (by rw [HGB.out]; exact (gensC_get y s).1)
            clear hSw
            go_simp <;> with_reducible rfl
          (try simp only [Act.put, List.setIfInBounds_toArray, List.set_cons_zero, List.set_cons_succ])
          refine wpAnyH_take (i := 6) (oi := ?_) (v := ?_) ?_ (by kernel_rfl) (by decide +kernel) (by decide +kernel) (fun _ _ _ h => h) ?_ (by assumption) ?_
          rotate_left 2
          focus (simp only [List.getElem?_toArray, List.getElem?_cons_succ, List.getElem?_cons_zero] <;> rfl)
          · refine Or.inl ⟨by rfl, ?_⟩
            intro w hSw
            (try dsimp only at hSw)
            go_simp <;> with_reducible rfl
          (try simp only [Act.put, List.setIfInBounds_toArray, List.set_cons_zero, List.set_cons_succ])
          refine wpAnyH_take (i := 7) (oi := ?_) (v := ?_) ?_ (by kernel_rfl) (by decide +kernel) (by decide +kernel) (fun _ _ _ h => h) ?_ (by assumption) ?_
          rotate_left 2
          focus (simp only [List.getElem?_toArray, List.getElem?_cons_succ, List.getElem?_cons_zero] <;> rfl)
          · refine Or.inl ⟨by rfl, ?_⟩
            intro w hSw
            (try dsimp only at hSw)
            go_simp <;> with_reducible rfl
          (try simp only [Act.put, List.setIfInBounds_toArray, List.set_cons_zero, List.set_cons_succ])
          refine wpAnyH_take (i := 8) (oi := ?_) (v := ?_) ?_ (by kernel_rfl) (by decide +kernel) (by decide +kernel) (fun _ _ _ h => h) ?_ (by assumption) ?_
          rotate_left 2
          focus (simp only [List.getElem?_toArray, List.getElem?_cons_succ, List.getElem?_cons_zero] <;> rfl)
          · refine Or.inl ⟨by rfl, ?_⟩
            intro w hSw
            (try dsimp only at hSw)
            go_simp <;> with_reducible rfl
          (try simp only [Act.put, List.setIfInBounds_toArray, List.set_cons_zero, List.set_cons_succ])
          refine wpAnyH_take (i := 10) (oi := ?_) (v := ?_) ?_ (by kernel_rfl) (by decide +kernel) (by decide +kernel) (fun _ _ _ h => h) ?_ (by assumption) ?_
          rotate_left 2
          focus (simp only [List.getElem?_toArray, List.getElem?_cons_succ, List.getElem?_cons_zero] <;> rfl)
          · refine Or.inl ⟨by rfl, ?_⟩
            intro w hSw
            (try dsimp only at hSw)
            go_simp <;> with_reducible rfl
          (try simp only [Act.put, List.setIfInBounds_toArray, List.set_cons_zero, List.set_cons_succ])
          refine wpAnyH_take (i := 9) (oi := ?_) (v := ?_) ?_ (by kernel_rfl) (by decide +kernel) (by decide +kernel) (fun _ _ _ h => h) ?_ (by assumption) ?_
          rotate_left 2
          focus (simp only [List.getElem?_toArray, List.getElem?_cons_succ, List.getElem?_cons_zero] <;> rfl)
          · refine Or.inl ⟨by rfl, ?_⟩
            intro w hSw
            have hcell := (hSw.2.1).cell (genC_ck _ _)
            clear hSw
            go_simp <;> with_reducible rfl
          (try simp only [Act.put, List.setIfInBounds_toArray, List.set_cons_zero, List.set_cons_succ])
          refine wpAnyH_take (i := 11) (oi := ?_) (v := ?_) ?_ (by kernel_rfl) (by decide +kernel) (by decide +kernel) (fun _ _ _ h => h) ?_ (by assumption) ?_
          rotate_left 2
          focus (simp only [List.getElem?_toArray, List.getElem?_cons_succ, List.getElem?_cons_zero] <;> rfl)
          · refine Or.inl ⟨by rfl, ?_⟩
            intro w hSw
            (try dsimp only at hSw)
            go_simp <;> with_reducible rfl
          (try simp only [Act.put, List.setIfInBounds_toArray, List.set_cons_zero, List.set_cons_succ])
          refine wpAnyH_take (i := 12) (oi := ?_) (v := ?_) ?_ (by kernel_rfl) (by decide +kernel) (by decide +kernel) (fun _ _ _ h => h) ?_ (by assumption) ?_
          rotate_left 2
          focus (simp only [List.getElem?_toArray, List.getElem?_cons_succ, List.getElem?_cons_zero] <;> rfl)
          · refine Or.inl ⟨by rfl, ?_⟩
            intro w hSw
            (try dsimp only at hSw)
            go_simp <;> with_reducible rfl
          (try simp only [Act.put, List.setIfInBounds_toArray, List.set_cons_zero, List.set_cons_succ])
          refine wpAnyH_take (i := 13) (oi := ?_) (v := ?_) ?_ (by kernel_rfl) (by decide +kernel) (by decide +kernel) (fun _ _ _ h => h) ?_ (by assumption) ?_
          rotate_left 2
          focus (simp only [List.getElem?_toArray, List.getElem?_cons_succ, List.getElem?_cons_zero] <;> rfl)
          · refine Or.inl ⟨by rfl, ?_⟩
            intro w hSw
            have hcell := (hSw.2.2).cell (by rw [HGB.out]; exact (gensC_get y s).2.1)
            clear hSw
            go_simp <;> with_reducible rfl
          (try simp only [Act.put, List.setIfInBounds_toArray, List.set_cons_zero, List.set_cons_succ])
          refine wpAnyH_ready (rs := [14]) (by decide +kernel) (by simp) ?_
          refine AllReadyH.cons (o := ?_) ?_ (fun K hK => ?_) AllReadyH.nil
          rotate_left 1
          focus (simp only [List.getElem?_toArray, List.getElem?_cons_succ, List.getElem?_cons_zero] <;> rfl)
          (try rw [if_pos (by rfl)])
          go_simp
          go_at_call 42
          refine (equalK_yes HK.out _ KA_0.out KB_0.out).mono ?_
          rintro e wz1 ⟨rfl, hw⟩
          obtain rfl := hw
          refine hK.out _ _ (KEEP.out _ BB0.out HG_0.out HF_0.out) (fun hHeld => ?_)
          clear hK K
          (try simp only [Act.put, List.setIfInBounds_toArray, List.set_cons_zero, List.set_cons_succ])
          refine wpAnyH_take (i := 15) (oi := ?_) (v := ?_) ?_ (by kernel_rfl) (by decide +kernel) (by decide +kernel) (fun _ _ _ h => h) ?_ (by assumption) ?_
          rotate_left 2
          focus (simp only [List.getElem?_toArray, List.getElem?_cons_succ, List.getElem?_cons_zero] <;> rfl)
          · refine Or.inl ⟨by rfl, ?_⟩
            intro w hSw
            (try dsimp only at hSw)
            go_simp <;> with_reducible rfl
          (try simp only [Act.put, List.setIfInBounds_toArray, List.set_cons_zero, List.set_cons_succ])
          refine wpAnyH_take (i := 16) (oi := ?_) (v := ?_) ?_ (by kernel_rfl) (by decide +kernel) (by decide +kernel) (fun _ _ _ h => h) ?_ (by assumption) ?_
          rotate_left 2
          focus (simp only [List.getElem?_toArray, List.getElem?_cons_succ, List.getElem?_cons_zero] <;> rfl)
          · refine Or.inl ⟨by rfl, ?_⟩
            intro w hSw
            (try dsimp only at hSw)
            go_simp <;> with_reducible rfl
          (try simp only [Act.put, List.setIfInBounds_toArray, List.set_cons_zero, List.set_cons_succ])
          refine wpAnyH_done (by decide +kernel) ?_ _
          refine NoPanic.normal ?_
          clear KEEP
          go_wp2_with fail
          go_roundw
          case rel => exact ⟨1, by go_num, .inr (.inl rfl), Lib.hid ⟨fun _ => HQ.out, fun h => absurd h (by decide), fun h => absurd h (by decide)⟩, HF_0, HX_0, HY_0, RX_0, RY_0, BB0⟩
          case measure => simp [intOf]
        · have HNE := Lib.hid (show ¬ r.old = s.old from fun h => h2 (by rw [h]))
          have HK := Lib.hid h2
          clear h1 h2
          have BB0 := Lib.hid (HB.out.drew)
          have KEEP := Lib.hid (fun w' (hW : Below W.heap.size W w') (hG : Bx w' g7 24 (genC x.old r.old)) (hF : Bx w' g5 68 GB) => (show Below W.heap.size W w' ∧ Bx w' g7 24 (genC x.old r.old) ∧ Bx w' g5 68 GB from ⟨hW, hG, hF⟩))
          have HG_0 := Lib.hid (Bx.drew H7.out)
          have HF_0 := Lib.hid (Bx.drew H5.out)
          have KA_0 := Lib.hid (KA.out.go ((Below.refl V7.heap.size V7).drew))
          have KB_0 := Lib.hid (KB.out.go ((Below.refl V7.heap.size V7).drew))
          refine wp_region_noPanic ?_
          refine wp_region_held_drew (S := fun w' => Below W.heap.size W w' ∧ Bx w' g7 24 (genC x.old r.old) ∧ Bx w' g5 68 GB) (by kernel_rfl) (KEEP.out _ BB0.out HG_0.out HF_0.out) (fun hHeld => ?_)
          obtain ⟨wz0, hwz⟩ : ∃ x, x = V7.drew := ⟨_, rfl⟩
          rw [← hwz] at BB0 hHeld HG_0 HF_0 KA_0 KB_0 ⊢
          clear hwz
          refine wpAnyH_take (i := 0) (oi := ?_) (v := ?_) ?_ (by kernel_rfl) (by decide +kernel) (by decide +kernel) (fun _ _ _ h => h) ?_ (by assumption) ?_
          rotate_left 2
          focus (simp only [List.getElem?_toArray, List.getElem?_cons_zero] <;> rfl)
          · refine Or.inl ⟨by rfl, ?_⟩
            intro w hSw
            (try dsimp only at hSw)
            go_simp <;> with_reducible rfl
          (try simp only [Act.put, List.setIfInBounds_toArray, List.set_cons_zero, List.set_cons_succ])
          refine wpAnyH_take (i := 2) (oi := ?_) (v := ?_) ?_ (by kernel_rfl) (by decide +kernel) (by decide +kernel) (fun _ _ _ h => h) ?_ (by assumption) ?_
          rotate_left 2
          focus (simp only [List.getElem?_toArray, List.getElem?_cons_succ, List.getElem?_cons_zero] <;> rfl)
          · refine Or.inl ⟨by rfl, ?_⟩
            intro w hSw
            (try dsimp only at hSw)
            go_simp <;> with_reducible rfl
          (try simp only [Act.put, List.setIfInBounds_toArray, List.set_cons_zero, List.set_cons_succ])
          refine wpAnyH_take (i := 1) (oi := ?_) (v := ?_) ?_ (by kernel_rfl) (by decide +kernel) (by decide +kernel) (fun _ _ _ h => h) ?_ (by assumption) ?_
          rotate_left 2
          focus (simp only [List.getElem?_toArray, List.getElem?_cons_succ, List.getElem?_cons_zero] <;> rfl)
          · refine Or.inl ⟨by rfl, ?_⟩
            intro w hSw
            have hcell := (hSw.2.1).cell (genC_cn _ _)
            clear hSw
            go_simp <;> with_reducible rfl
          (try simp only [Act.put, List.setIfInBounds_toArray, List.set_cons_zero, List.set_cons_succ])
          refine wpAnyH_take (i := 3) (oi := ?_) (v := ?_) ?_ (by kernel_rfl) (by decide +kernel) (by decide +kernel) (fun _ _ _ h => h) ?_ (by assumption) ?_
          rotate_left 2
          focus (simp only [List.getElem?_toArray, List.getElem?_cons_succ, List.getElem?_cons_zero] <;> rfl)
          · refine Or.inl ⟨by rfl, ?_⟩
            intro w hSw
            (try dsimp only at hSw)
            go_simp <;> with_reducible rfl
          (try simp only [Act.put, List.setIfInBounds_toArray, List.set_cons_zero, List.set_cons_succ])
          refine wpAnyH_take (i := 4) (oi := ?_) (v := ?_) ?_ (by kernel_rfl) (by decide +kernel) (by decide +kernel) (fun _ _ _ h => h) ?_ (by assumption) ?_
          rotate_left 2
          focus (simp only [List.getElem?_toArray, List.getElem?_cons_succ, List.getElem?_cons_zero] <;> rfl)
          · refine Or.inl ⟨by rfl, ?_⟩
            intro w hSw
            (try dsimp only at hSw)
            go_simp <;> with_reducible rfl
          (try simp only [Act.put, List.setIfInBounds_toArray, List.set_cons_zero, List.set_cons_succ])
          refine wpAnyH_take (i := 5) (oi := ?_) (v := ?_) ?_ (by kernel_rfl) (by decide +kernel) (by decide +kernel) (fun _ _ _ h => h) ?_ (by assumption) ?_
          rotate_left 2
          focus (simp only [List.getElem?_toArray, List.getElem?_cons_succ, List.getElem?_cons_zero] <;> rfl)
          · refine Or.inl ⟨by rfl, ?_⟩
            intro w hSw
            have hcell := (hSw.2.2).cell (by rw [HGB.out]; exact (gensC_get y s).1)
            clear hSw
            go_simp <;> with_reducible rfl
          (try simp only [Act.put, List.setIfInBounds_toArray, List.set_cons_zero, List.set_cons_succ])
          refine wpAnyH_take (i := 6) (oi := ?_) (v := ?_) ?_ (by kernel_rfl) (by decide +kernel) (by decide +kernel) (fun _ _ _ h => h) ?_ (by assumption) ?_
          rotate_left 2
          focus (simp only [List.getElem?_toArray, List.getElem?_cons_succ, List.getElem?_cons_zero] <;> rfl)
          · refine Or.inl ⟨by rfl, ?_⟩
            intro w hSw
            (try dsimp only at hSw)
            go_simp <;> with_reducible rfl
          (try simp only [Act.put, List.setIfInBounds_toArray, List.set_cons_zero, List.set_cons_succ])
          refine wpAnyH_take (i := 7) (oi := ?_) (v := ?_) ?_ (by kernel_rfl) (by decide +kernel) (by decide +kernel) (fun _ _ _ h => h) ?_ (by assumption) ?_
          rotate_left 2
          focus (simp only [List.getElem?_toArray, List.getElem?_cons_succ, List.getElem?_cons_zero] <;> rfl)
          · refine Or.inl ⟨by rfl, ?_⟩
            intro w hSw
            (try dsimp only at hSw)
            go_simp <;> with_reducible rfl
          (try simp only [Act.put, List.setIfInBounds_toArray, List.set_cons_zero, List.set_cons_succ])
          refine wpAnyH_take (i := 8) (oi := ?_) (v := ?_) ?_ (by kernel_rfl) (by decide +kernel) (by decide +kernel) (fun _ _ _ h => h) ?_ (by assumption) ?_
          rotate_left 2
          focus (simp only [List.getElem?_toArray, List.getElem?_cons_succ, List.getElem?_cons_zero] <;> rfl)
          · refine Or.inl ⟨by rfl, ?_⟩
            intro w hSw
            (try dsimp only at hSw)
            go_simp <;> with_reducible rfl
          (try simp only [Act.put, List.setIfInBounds_toArray, List.set_cons_zero, List.set_cons_succ])
          refine wpAnyH_take (i := 10) (oi := ?_) (v := ?_) ?_ (by kernel_rfl) (by decide +kernel) (by decide +kernel) (fun _ _ _ h => h) ?_ (by assumption) ?_
          rotate_left 2
          focus (simp only [List.getElem?_toArray, List.getElem?_cons_succ, List.getElem?_cons_zero] <;> rfl)
          · refine Or.inl ⟨by rfl, ?_⟩
            intro w hSw
            (try dsimp only at hSw)
            go_simp <;> with_reducible rfl
          (try simp only [Act.put, List.setIfInBounds_toArray, List.set_cons_zero, List.set_cons_succ])
          refine wpAnyH_take (i := 9) (oi := ?_) (v := ?_) ?_ (by kernel_rfl) (by decide +kernel) (by decide +kernel) (fun _ _ _ h => h) ?_ (by assumption) ?_
          rotate_left 2
          focus (simp only [List.getElem?_toArray, List.getElem?_cons_succ, List.getElem?_cons_zero] <;> rfl)
          · refine Or.inl ⟨by rfl, ?_⟩
            intro w hSw
            have hcell := (hSw.2.1).cell (genC_ck _ _)
            clear hSw
            go_simp <;> with_reducible rfl
          (try simp only [Act.put, List.setIfInBounds_toArray, List.set_cons_zero, List.set_cons_succ])
          refine wpAnyH_take (i := 11) (oi := ?_) (v := ?_) ?_ (by kernel_rfl) (by decide +kernel) (by decide +kernel) (fun _ _ _ h => h) ?_ (by assumption) ?_
          rotate_left 2
          focus (simp only [List.getElem?_toArray, List.getElem?_cons_succ, List.getElem?_cons_zero] <;> rfl)
          · refine Or.inl ⟨by rfl, ?_⟩
            intro w hSw
            (try dsimp only at hSw)
            go_simp <;> with_reducible rfl
          (try simp only [Act.put, List.setIfInBounds_toArray, List.set_cons_zero, List.set_cons_succ])
          refine wpAnyH_take (i := 12) (oi := ?_) (v := ?_) ?_ (by kernel_rfl) (by decide +kernel) (by decide +kernel) (fun _ _ _ h => h) ?_ (by assumption) ?_
          rotate_left 2
          focus (simp only [List.getElem?_toArray, List.getElem?_cons_succ, List.getElem?_cons_zero] <;> rfl)
          · refine Or.inl ⟨by rfl, ?_⟩
            intro w hSw
            (try dsimp only at hSw)
            go_simp <;> with_reducible rfl
          (try simp only [Act.put, List.setIfInBounds_toArray, List.set_cons_zero, List.set_cons_succ])
          refine wpAnyH_take (i := 13) (oi := ?_) (v := ?_) ?_ (by kernel_rfl) (by decide +kernel) (by decide +kernel) (fun _ _ _ h => h) ?_ (by assumption) ?_
          rotate_left 2
          focus (simp only [List.getElem?_toArray, List.getElem?_cons_succ, List.getElem?_cons_zero] <;> rfl)
          · refine Or.inl ⟨by rfl, ?_⟩
            intro w hSw
            have hcell := (hSw.2.2).cell (by rw [HGB.out]; exact (gensC_get y s).2.1)
            clear hSw
            go_simp <;> with_reducible rfl
          (try simp only [Act.put, List.setIfInBounds_toArray, List.set_cons_zero, List.set_cons_succ])
          refine wpAnyH_ready (rs := [14]) (by decide +kernel) (by simp) ?_
          refine AllReadyH.cons (o := ?_) ?_ (fun K hK => ?_) AllReadyH.nil
          rotate_left 1
          focus (simp only [List.getElem?_toArray, List.getElem?_cons_succ, List.getElem?_cons_zero] <;> rfl)
          (try rw [if_pos (by rfl)])
          go_simp
          go_at_call 42
          refine (equalK_no HK.out _ KA_0.out KB_0.out).mono ?_
          rintro e wz1 ⟨rfl, hw⟩
          obtain rfl := hw
          refine hK.out _ _ (KEEP.out _ BB0.out HG_0.out HF_0.out) (fun hHeld => ?_)
          clear hK K
          (try simp only [Act.put, List.setIfInBounds_toArray, List.set_cons_zero, List.set_cons_succ])
          refine wpAnyH_take (i := 15) (oi := ?_) (v := ?_) ?_ (by kernel_rfl) (by decide +kernel) (by decide +kernel) (fun _ _ _ h => h) ?_ (by assumption) ?_
          rotate_left 2
          focus (simp only [List.getElem?_toArray, List.getElem?_cons_succ, List.getElem?_cons_zero] <;> rfl)
          · refine Or.inl ⟨by rfl, ?_⟩
            intro w hSw
            (try dsimp only at hSw)
            go_simp <;> with_reducible rfl
          (try simp only [Act.put, List.setIfInBounds_toArray, List.set_cons_zero, List.set_cons_succ])
          refine wpAnyH_take (i := 16) (oi := ?_) (v := ?_) ?_ (by kernel_rfl) (by decide +kernel) (by decide +kernel) (fun _ _ _ h => h) ?_ (by assumption) ?_
          rotate_left 2
          focus (simp only [List.getElem?_toArray, List.getElem?_cons_succ, List.getElem?_cons_zero] <;> rfl)
          · refine Or.inl ⟨by rfl, ?_⟩
            intro w hSw
            (try dsimp only at hSw)
            go_simp <;> with_reducible rfl
          (try simp only [Act.put, List.setIfInBounds_toArray, List.set_cons_zero, List.set_cons_succ])
          refine wpAnyH_done (by decide +kernel) ?_ _
          refine NoPanic.normal ?_
          clear KEEP
          obtain rfl : D = false := HF.out (fun hd => HNE.out (HD.out.1 hd).1)
          go_wp2_with fail
          go_ret
          exact ⟨rfl, BB0.out⟩
      · have b1 : (r.old.no == s.old.no) = false := beq_eq_false_iff_ne.2 h1
        have b2 : (r.old.no != s.old.no) = true := by rw [bne, b1]; rfl
        have HNE := Lib.hid (show ¬ r.old = s.old from fun h => h1 (by rw [h]))
        clear h1
        have BB0 := Lib.hid (HB.out.drew)
        have KEEP := Lib.hid (fun w' (hW : Below W.heap.size W w') (hG : Bx w' g7 24 (genC x.old r.old)) (hF : Bx w' g5 68 GB) => (show Below W.heap.size W w' ∧ Bx w' g7 24 (genC x.old r.old) ∧ Bx w' g5 68 GB from ⟨hW, hG, hF⟩))
        have HG_0 := Lib.hid (Bx.drew H7.out)
        have HF_0 := Lib.hid (Bx.drew H5.out)
        refine wp_region_noPanic ?_
        refine wp_region_held_drew (S := fun w' => Below W.heap.size W w' ∧ Bx w' g7 24 (genC x.old r.old) ∧ Bx w' g5 68 GB) (by kernel_rfl) (KEEP.out _ BB0.out HG_0.out HF_0.out) (fun hHeld => ?_)
        obtain ⟨wz0, hwz⟩ : ∃ x, x = V7.drew := ⟨_, rfl⟩
        rw [← hwz] at BB0 hHeld HG_0 HF_0 ⊢
        clear hwz
        refine wpAnyH_take (i := 0) (oi := ?_) (v := ?_) ?_ (by kernel_rfl) (by decide +kernel) (by decide +kernel) (fun _ _ _ h => h) ?_ (by assumption) ?_
        rotate_left 2
        focus (simp only [List.getElem?_toArray, List.getElem?_cons_zero] <;> rfl)
        · refine Or.inl ⟨by rfl, ?_⟩
          intro w hSw
          (try dsimp only at hSw)
          go_simp <;> with_reducible rfl
        (try simp only [Act.put, List.setIfInBounds_toArray, List.set_cons_zero, List.set_cons_succ])
        refine wpAnyH_take (i := 2) (oi := ?_) (v := ?_) ?_ (by kernel_rfl) (by decide +kernel) (by decide +kernel) (fun _ _ _ h => h) ?_ (by assumption) ?_
        rotate_left 2
        focus (simp only [List.getElem?_toArray, List.getElem?_cons_succ, List.getElem?_cons_zero] <;> rfl)
        · refine Or.inl ⟨by rfl, ?_⟩
          intro w hSw
          (try dsimp only at hSw)
          go_simp <;> with_reducible rfl
        (try simp only [Act.put, List.setIfInBounds_toArray, List.set_cons_zero, List.set_cons_succ])
        refine wpAnyH_take (i := 1) (oi := ?_) (v := ?_) ?_ (by kernel_rfl) (by decide +kernel) (by decide +kernel) (fun _ _ _ h => h) ?_ (by assumption) ?_
        rotate_left 2
        focus (simp only [List.getElem?_toArray, List.getElem?_cons_succ, List.getElem?_cons_zero] <;> rfl)
        · refine Or.inl ⟨by rfl, ?_⟩
          intro w hSw
          have hcell := (hSw.2.1).cell (genC_cn _ _)
          clear hSw
          go_simp <;> with_reducible rfl
        (try simp only [Act.put, List.setIfInBounds_toArray, List.set_cons_zero, List.set_cons_succ])
        refine wpAnyH_take (i := 3) (oi := ?_) (v := ?_) ?_ (by kernel_rfl) (by decide +kernel) (by decide +kernel) (fun _ _ _ h => h) ?_ (by assumption) ?_
        rotate_left 2
        focus (simp only [List.getElem?_toArray, List.getElem?_cons_succ, List.getElem?_cons_zero] <;> rfl)
        · refine Or.inl ⟨by rfl, ?_⟩
          intro w hSw
          (try dsimp only at hSw)
          go_simp <;> with_reducible rfl
        (try simp only [Act.put, List.setIfInBounds_toArray, List.set_cons_zero, List.set_cons_succ])
        refine wpAnyH_take (i := 4) (oi := ?_) (v := ?_) ?_ (by kernel_rfl) (by decide +kernel) (by decide +kernel) (fun _ _ _ h => h) ?_ (by assumption) ?_
        rotate_left 2
        focus (simp only [List.getElem?_toArray, List.getElem?_cons_succ, List.getElem?_cons_zero] <;> rfl)
        · refine Or.inl ⟨by rfl, ?_⟩
          intro w hSw
          (try dsimp only at hSw)
          go_simp <;> with_reducible rfl
        (try simp only [Act.put, List.setIfInBounds_toArray, List.set_cons_zero, List.set_cons_succ])
        refine wpAnyH_take (i := 5) (oi := ?_) (v := ?_) ?_ (by kernel_rfl) (by decide +kernel) (by decide +kernel) (fun _ _ _ h => h) ?_ (by assumption) ?_
        rotate_left 2
        focus (simp only [List.getElem?_toArray, List.getElem?_cons_succ, List.getElem?_cons_zero] <;> rfl)
        · refine Or.inl ⟨by rfl, ?_⟩
          intro w hSw
          have hcell := (hSw.2.2).cell (by rw [HGB.out]; exact (gensC_get y s).1)
          clear hSw
          go_simp <;> with_reducible rfl
        (try simp only [Act.put, List.setIfInBounds_toArray, List.set_cons_zero, List.set_cons_succ])
        refine wpAnyH_take (i := 6) (oi := ?_) (v := ?_) ?_ (by kernel_rfl) (by decide +kernel) (by decide +kernel) (fun _ _ _ h => h) ?_ (by assumption) ?_
        rotate_left 2
        focus (simp only [List.getElem?_toArray, List.getElem?_cons_succ, List.getElem?_cons_zero] <;> rfl)
        · refine Or.inl ⟨by rfl, ?_⟩
          intro w hSw
          (try dsimp only at hSw)
          go_simp <;> with_reducible rfl
        (try simp only [Act.put, List.setIfInBounds_toArray, List.set_cons_zero, List.set_cons_succ])
        refine wpAnyH_take (i := 7) (oi := ?_) (v := ?_) ?_ (by kernel_rfl) (by decide +kernel) (by decide +kernel) (fun _ _ _ h => h) ?_ (by assumption) ?_
        rotate_left 2
        focus (simp only [List.getElem?_toArray, List.getElem?_cons_succ, List.getElem?_cons_zero] <;> rfl)
        · refine Or.inl ⟨by rfl, ?_⟩
          intro w hSw
          (try dsimp only at hSw)
          go_simp <;> with_reducible rfl
        (try simp only [Act.put, List.setIfInBounds_toArray, List.set_cons_zero, List.set_cons_succ])
        refine wpAnyH_take (i := 8) (oi := ?_) (v := undef) ?_ (by kernel_rfl) (by decide +kernel) (by decide +kernel) (fun _ _ _ h => h) ?_ (by assumption) ?_
        rotate_left 1
        focus (simp only [List.getElem?_toArray, List.getElem?_cons_succ, List.getElem?_cons_zero] <;> rfl)
        · exact Or.inr ⟨by rfl, rfl⟩
        (try simp only [Act.put, List.setIfInBounds_toArray, List.set_cons_zero, List.set_cons_succ])
        refine wpAnyH_take (i := 10) (oi := ?_) (v := undef) ?_ (by kernel_rfl) (by decide +kernel) (by decide +kernel) (fun _ _ _ h => h) ?_ (by assumption) ?_
        rotate_left 1
        focus (simp only [List.getElem?_toArray, List.getElem?_cons_succ, List.getElem?_cons_zero] <;> rfl)
        · exact Or.inr ⟨by rfl, rfl⟩
        (try simp only [Act.put, List.setIfInBounds_toArray, List.set_cons_zero, List.set_cons_succ])
        refine wpAnyH_take (i := 9) (oi := ?_) (v := undef) ?_ (by kernel_rfl) (by decide +kernel) (by decide +kernel) (fun _ _ _ h => h) ?_ (by assumption) ?_
        rotate_left 1
        focus (simp only [List.getElem?_toArray, List.getElem?_cons_succ, List.getElem?_cons_zero] <;> rfl)
        · exact Or.inr ⟨by rfl, rfl⟩
        (try simp only [Act.put, List.setIfInBounds_toArray, List.set_cons_zero, List.set_cons_succ])
        refine wpAnyH_take (i := 11) (oi := ?_) (v := undef) ?_ (by kernel_rfl) (by decide +kernel) (by decide +kernel) (fun _ _ _ h => h) ?_ (by assumption) ?_
        rotate_left 1
        focus (simp only [List.getElem?_toArray, List.getElem?_cons_succ, List.getElem?_cons_zero] <;> rfl)
        · exact Or.inr ⟨by rfl, rfl⟩
        (try simp only [Act.put, List.setIfInBounds_toArray, List.set_cons_zero, List.set_cons_succ])
        refine wpAnyH_take (i := 12) (oi := ?_) (v := undef) ?_ (by kernel_rfl) (by decide +kernel) (by decide +kernel) (fun _ _ _ h => h) ?_ (by assumption) ?_
        rotate_left 1
        focus (simp only [List.getElem?_toArray, List.getElem?_cons_succ, List.getElem?_cons_zero] <;> rfl)
        · exact Or.inr ⟨by rfl, rfl⟩
        (try simp only [Act.put, List.setIfInBounds_toArray, List.set_cons_zero, List.set_cons_succ])
        refine wpAnyH_take (i := 13) (oi := ?_) (v := undef) ?_ (by kernel_rfl) (by decide +kernel) (by decide +kernel) (fun _ _ _ h => h) ?_ (by assumption) ?_
        rotate_left 1
        focus (simp only [List.getElem?_toArray, List.getElem?_cons_succ, List.getElem?_cons_zero] <;> rfl)
        · exact Or.inr ⟨by rfl, rfl⟩
        (try simp only [Act.put, List.setIfInBounds_toArray, List.set_cons_zero, List.set_cons_succ])
        refine wpAnyH_take (i := 14) (oi := ?_) (v := undef) ?_ (by kernel_rfl) (by decide +kernel) (by decide +kernel) (fun _ _ _ h => h) ?_ (by assumption) ?_
        rotate_left 1
        focus (simp only [List.getElem?_toArray, List.getElem?_cons_succ, List.getElem?_cons_zero] <;> rfl)
        · exact Or.inr ⟨by rfl, rfl⟩
        (try simp only [Act.put, List.setIfInBounds_toArray, List.set_cons_zero, List.set_cons_succ])
        refine wpAnyH_take (i := 15) (oi := ?_) (v := undef) ?_ (by kernel_rfl) (by decide +kernel) (by decide +kernel) (fun _ _ _ h => h) ?_ (by assumption) ?_
        rotate_left 1
        focus (simp only [List.getElem?_toArray, List.getElem?_cons_succ, List.getElem?_cons_zero] <;> rfl)
        · exact Or.inr ⟨by rfl, rfl⟩
        (try simp only [Act.put, List.setIfInBounds_toArray, List.set_cons_zero, List.set_cons_succ])
        refine wpAnyH_take (i := 16) (oi := ?_) (v := ?_) ?_ (by kernel_rfl) (by decide +kernel) (by decide +kernel) (fun _ _ _ h => h) ?_ (by assumption) ?_
        rotate_left 2
        focus (simp only [List.getElem?_toArray, List.getElem?_cons_succ, List.getElem?_cons_zero] <;> rfl)
        · refine Or.inl ⟨by rfl, ?_⟩
          intro w hSw
          (try dsimp only at hSw)
          go_simp <;> with_reducible rfl
        (try simp only [Act.put, List.setIfInBounds_toArray, List.set_cons_zero, List.set_cons_succ])
        refine wpAnyH_done (by decide +kernel) ?_ _
        refine NoPanic.normal ?_
        clear KEEP
        obtain rfl : D = false := HF.out (fun hd => HNE.out (HD.out.1 hd).1)
        go_wp2_with fail
        go_ret
        exact ⟨rfl, BB0.out⟩
    · obtain ⟨V7, hV7⟩ : ∃ z, z = wr.alloc (.cells #[.int .i64 r.cur.no, .slice x.cur.1 r.cur.key.length x.cur.2] 24) := ⟨_, rfl⟩
      obtain ⟨g7, hg7⟩ : ∃ g, g = wr.heap.size := ⟨_, rfl⟩
      have ha := (Below.refl wr.heap.size wr).alloc (Nat.le_refl _) (.cells (genC x.cur r.cur) 24)
      have hx := Bx.new wr 24 (genC x.cur r.cur)
      rw [show wr.alloc (.cells (genC x.cur r.cur) 24) = V7 from hV7.symm] at ha hx
      rw [← hg7] at hx
      have nHB := Lib.hid (belG HB.out ha HB.out.size)
      have nHG := Lib.hid (Bx.go HG.out ha)
      have nHJ := Lib.hid (Bx.go HJ.out ha)
      have nH5 := Lib.hid (Bx.go H5.out ha)
      have nHKA := Lib.hid (HKA.out.go ha)
      have nHKB := Lib.hid (HKB.out.go ha)
      have H7 := Lib.hid hx
      have KA := Lib.hid nHKA.out.1
      have KB := Lib.hid nHKB.out.1
      have HV7 := Lib.hid hV7
      have HG7 := Lib.hid hg7
      clear hV7 hg7 ha hx HB HG HJ H5 HKA HKB
      have HB := nHB
      have HG := nHG
      have HJ := nHJ
      have H5 := nH5
      have HKA := nHKA
      have HKB := nHKB
      clear nHB nHG nHJ nH5 nHKA nHKB
      have hix := fun w => index_g1 (.int .i64 r.old.no) (.slice x.old.1 r.old.key.length x.old.2) (.int .i64 r.cur.no) (.slice x.cur.1 r.cur.key.length x.cur.2) (.int .i64 r.pend.no) (.slice x.pend.1 r.pend.key.length x.pend.2) w
      go_upto_region 5 with (fail)
      clear hix
      rw [← HV7.out]
      (try rw [← HG7.out])
      clear HV7 HG7
      by_cases h1 : r.cur.no = s.cur.no
      · have b1 : (r.cur.no == s.cur.no) = true := by rw [h1]; exact beq_self_eq_true _
        have b2 : (r.cur.no != s.cur.no) = false := by rw [bne, b1]; rfl
        by_cases h2 : r.cur.key = s.cur.key
        · have HQ := Lib.hid (Gn.ext' h1 h2)
          have HK := Lib.hid h2
          clear h1 h2
          clear HF HD
          have BB0 := Lib.hid (HB.out.drew)
          have KEEP := Lib.hid (fun w' (hW : Below W.heap.size W w') (hG : Bx w' g7 24 (genC x.cur r.cur)) (hF : Bx w' g5 68 GB) => (show Below W.heap.size W w' ∧ Bx w' g7 24 (genC x.cur r.cur) ∧ Bx w' g5 68 GB from ⟨hW, hG, hF⟩))
          have HG_0 := Lib.hid (Bx.drew H7.out)
          have HF_0 := Lib.hid (Bx.drew H5.out)
          have HX_0 := Lib.hid (Bx.drew HG.out)
          have HY_0 := Lib.hid (Bx.drew HJ.out)
          have KA_0 := Lib.hid (KA.out.go ((Below.refl V7.heap.size V7).drew))
          have KB_0 := Lib.hid (KB.out.go ((Below.refl V7.heap.size V7).drew))
          have RX_0 := Lib.hid (HKA.out.go ((Below.refl V7.heap.size V7).drew))
          have RY_0 := Lib.hid (HKB.out.go ((Below.refl V7.heap.size V7).drew))
          refine wp_region_noPanic ?_
          refine wp_region_held_drew (S := fun w' => Below W.heap.size W w' ∧ Bx w' g7 24 (genC x.cur r.cur) ∧ Bx w' g5 68 GB) (by kernel_rfl) (KEEP.out _ BB0.out HG_0.out HF_0.out) (fun hHeld => ?_)
          obtain ⟨wz0, hwz⟩ : ∃ x, x = V7.drew := ⟨_, rfl⟩
          rw [← hwz] at BB0 hHeld HG_0 HF_0 HX_0 HY_0 KA_0 KB_0 RX_0 RY_0 ⊢
          clear hwz
          refine wpAnyH_take (i := 0) (oi := ?_) (v := ?_) ?_ (by kernel_rfl) (by decide +kernel) (by decide +kernel) (fun _ _ _ h => h) ?_ (by assumption) ?_
          rotate_left 2
          focus (simp only [List.getElem?_toArray, List.getElem?_cons_zero] <;> rfl)
          · refine Or.inl ⟨by rfl, ?_⟩
            intro w hSw
            (try dsimp only at hSw)
            go_simp <;> with_reducible rfl
          (try simp only [Act.put, List.setIfInBounds_toArray, List.set_cons_zero, List.set_cons_succ])
          refine wpAnyH_take (i := 2) (oi := ?_) (v := ?_) ?_ (by kernel_rfl) (by decide +kernel) (by decide +kernel) (fun _ _ _ h => h) ?_ (by assumption) ?_
          rotate_left 2
          focus (simp only [List.getElem?_toArray, List.getElem?_cons_succ, List.getElem?_cons_zero] <;> rfl)
          · refine Or.inl ⟨by rfl, ?_⟩
            intro w hSw
            (try dsimp only at hSw)
            go_simp <;> with_reducible rfl
          (try simp only [Act.put, List.setIfInBounds_toArray, List.set_cons_zero, List.set_cons_succ])
          refine wpAnyH_take (i := 1) (oi := ?_) (v := ?_) ?_ (by kernel_rfl) (by decide +kernel) (by decide +kernel) (fun _ _ _ h => h) ?_ (by assumption) ?_
          rotate_left 2
          focus (simp only [List.getElem?_toArray, List.getElem?_cons_succ, List.getElem?_cons_zero] <;> rfl)
          · refine Or.inl ⟨by rfl, ?_⟩
            intro w hSw
            have hcell := (hSw.2.1).cell (genC_cn _ _)
            clear hSw
            go_simp <;> with_reducible rfl
          (try simp only [Act.put, List.setIfInBounds_toArray, List.set_cons_zero, List.set_cons_succ])
          refine wpAnyH_take (i := 3) (oi := ?_) (v := ?_) ?_ (by kernel_rfl) (by decide +kernel) (by decide +kernel) (fun _ _ _ h => h) ?_ (by assumption) ?_
          rotate_left 2
          focus (simp only [List.getElem?_toArray, List.getElem?_cons_succ, List.getElem?_cons_zero] <;> rfl)
          · refine Or.inl ⟨by rfl, ?_⟩
            intro w hSw
            (try dsimp only at hSw)
            go_simp <;> with_reducible rfl
          (try simp only [Act.put, List.setIfInBounds_toArray, List.set_cons_zero, List.set_cons_succ])
          refine wpAnyH_take (i := 4) (oi := ?_) (v := ?_) ?_ (by kernel_rfl) (by decide +kernel) (by decide +kernel) (fun _ _ _ h => h) ?_ (by assumption) ?_
          rotate_left 2
          focus (simp only [List.getElem?_toArray, List.getElem?_cons_succ, List.getElem?_cons_zero] <;> rfl)
          · refine Or.inl ⟨by rfl, ?_⟩
            intro w hSw
            (try dsimp only at hSw)
            go_simp <;> with_reducible rfl
          (try simp only [Act.put, List.setIfInBounds_toArray, List.set_cons_zero, List.set_cons_succ])
          refine wpAnyH_take (i := 5) (oi := ?_) (v := ?_) ?_ (by kernel_rfl) (by decide +kernel) (by decide +kernel) (fun _ _ _ h => h) ?_ (by assumption) ?_
          rotate_left 2
          focus (simp only [List.getElem?_toArray, List.getElem?_cons_succ, List.getElem?_cons_zero] <;> rfl)
          · refine Or.inl ⟨by rfl, ?_⟩
            intro w hSw
            have hcell := (hSw.2.2).cell (by rw [HGB.out]; exact (gensC_get y s).2.2.1)
            clear hSw
            go_simp <;> with_reducible rfl
          (try simp only [Act.put, List.setIfInBounds_toArray, List.set_cons_zero, List.set_cons_succ])
          refine wpAnyH_take (i := 6) (oi := ?_) (v := ?_) ?_ (by kernel_rfl) (by decide +kernel) (by decide +kernel) (fun _ _ _ h => h) ?_ (by assumption) ?_
          rotate_left 2
          focus (simp only [List.getElem?_toArray, List.getElem?_cons_succ, List.getElem?_cons_zero] <;> rfl)
          · refine Or.inl ⟨by rfl, ?_⟩
            intro w hSw
            (try dsimp only at hSw)
            go_simp <;> with_reducible rfl
          (try simp only [Act.put, List.setIfInBounds_toArray, List.set_cons_zero, List.set_cons_succ])
          refine wpAnyH_take (i := 7) (oi := ?_) (v := ?_) ?_ (by kernel_rfl) (by decide +kernel) (by decide +kernel) (fun _ _ _ h => h) ?_ (by assumption) ?_
          rotate_left 2
          focus (simp only [List.getElem?_toArray, List.getElem?_cons_succ, List.getElem?_cons_zero] <;> rfl)
          · refine Or.inl ⟨by rfl, ?_⟩
            intro w hSw
            (try dsimp only at hSw)
            go_simp <;> with_reducible rfl
          (try simp only [Act.put, List.setIfInBounds_toArray, List.set_cons_zero, List.set_cons_succ])
          refine wpAnyH_take (i := 8) (oi := ?_) (v := ?_) ?_ (by kernel_rfl) (by decide +kernel) (by decide +kernel) (fun _ _ _ h => h) ?_ (by assumption) ?_
          rotate_left 2
          focus (simp only [List.getElem?_toArray, List.getElem?_cons_succ, List.getElem?_cons_zero] <;> rfl)
          · refine Or.inl ⟨by rfl, ?_⟩
            intro w hSw
            (try dsimp only at hSw)
            go_simp <;> with_reducible rfl
          (try simp only [Act.put, List.setIfInBounds_toArray, List.set_cons_zero, List.set_cons_succ])
          refine wpAnyH_take (i := 10) (oi := ?_) (v := ?_) ?_ (by kernel_rfl) (by decide +kernel) (by decide +kernel) (fun _ _ _ h => h) ?_ (by assumption) ?_
          rotate_left 2
          focus (simp only [List.getElem?_toArray, List.getElem?_cons_succ, List.getElem?_cons_zero] <;> rfl)
          · refine Or.inl ⟨by rfl, ?_⟩
            intro w hSw
            (try dsimp only at hSw)
            go_simp <;> with_reducible rfl
          (try simp only [Act.put, List.setIfInBounds_toArray, List.set_cons_zero, List.set_cons_succ])
          refine wpAnyH_take (i := 9) (oi := ?_) (v := ?_) ?_ (by kernel_rfl) (by decide +kernel) (by decide +kernel) (fun _ _ _ h => h) ?_ (by assumption) ?_
          rotate_left 2
          focus (simp only [List.getElem?_toArray, List.getElem?_cons_succ, List.getElem?_cons_zero] <;> rfl)
          · refine Or.inl ⟨by rfl, ?_⟩
            intro w hSw
            have hcell := (hSw.2.1).cell (genC_ck _ _)
            clear hSw
            go_simp <;> with_reducible rfl
          (try simp only [Act.put, List.setIfInBounds_toArray, List.set_cons_zero, List.set_cons_succ])
          refine wpAnyH_take (i := 11) (oi := ?_) (v := ?_) ?_ (by kernel_rfl) (by decide +kernel) (by decide +kernel) (fun _ _ _ h => h) ?_ (by assumption) ?_
          rotate_left 2
          focus (simp only [List.getElem?_toArray, List.getElem?_cons_succ, List.getElem?_cons_zero] <;> rfl)
          · refine Or.inl ⟨by rfl, ?_⟩
            intro w hSw
            (try dsimp only at hSw)
            go_simp <;> with_reducible rfl
          (try simp only [Act.put, List.setIfInBounds_toArray, List.set_cons_zero, List.set_cons_succ])
          refine wpAnyH_take (i := 12) (oi := ?_) (v := ?_) ?_ (by kernel_rfl) (by decide +kernel) (by decide +kernel) (fun _ _ _ h => h) ?_ (by assumption) ?_
          rotate_left 2
          focus (simp only [List.getElem?_toArray, List.getElem?_cons_succ, List.getElem?_cons_zero] <;> rfl)
          · refine Or.inl ⟨by rfl, ?_⟩
            intro w hSw
            (try dsimp only at hSw)
            go_simp <;> with_reducible rfl
          (try simp only [Act.put, List.setIfInBounds_toArray, List.set_cons_zero, List.set_cons_succ])
          refine wpAnyH_take (i := 13) (oi := ?_) (v := ?_) ?_ (by kernel_rfl) (by decide +kernel) (by decide +kernel) (fun _ _ _ h => h) ?_ (by assumption) ?_
          rotate_left 2
          focus (simp only [List.getElem?_toArray, List.getElem?_cons_succ, List.getElem?_cons_zero] <;> rfl)
          · refine Or.inl ⟨by rfl, ?_⟩
            intro w hSw
            have hcell := (hSw.2.2).cell (by rw [HGB.out]; exact (gensC_get y s).2.2.2.1)
            clear hSw
            go_simp <;> with_reducible rfl
          (try simp only [Act.put, List.setIfInBounds_toArray, List.set_cons_zero, List.set_cons_succ])
          refine wpAnyH_ready (rs := [14]) (by decide +kernel) (by simp) ?_
          refine AllReadyH.cons (o := ?_) ?_ (fun K hK => ?_) AllReadyH.nil
          rotate_left 1
          focus (simp only [List.getElem?_toArray, List.getElem?_cons_succ, List.getElem?_cons_zero] <;> rfl)
          (try rw [if_pos (by rfl)])
          go_simp
          go_at_call 42
          refine (equalK_yes HK.out _ KA_0.out KB_0.out).mono ?_
          rintro e wz1 ⟨rfl, hw⟩
          obtain rfl := hw
          refine hK.out _ _ (KEEP.out _ BB0.out HG_0.out HF_0.out) (fun hHeld => ?_)
          clear hK K
          (try simp only [Act.put, List.setIfInBounds_toArray, List.set_cons_zero, List.set_cons_succ])
          refine wpAnyH_take (i := 15) (oi := ?_) (v := ?_) ?_ (by kernel_rfl) (by decide +kernel) (by decide +kernel) (fun _ _ _ h => h) ?_ (by assumption) ?_
          rotate_left 2
          focus (simp only [List.getElem?_toArray, List.getElem?_cons_succ, List.getElem?_cons_zero] <;> rfl)
          · refine Or.inl ⟨by rfl, ?_⟩
            intro w hSw
            (try dsimp only at hSw)
            go_simp <;> with_reducible rfl
          (try simp only [Act.put, List.setIfInBounds_toArray, List.set_cons_zero, List.set_cons_succ])
          refine wpAnyH_take (i := 16) (oi := ?_) (v := ?_) ?_ (by kernel_rfl) (by decide +kernel) (by decide +kernel) (fun _ _ _ h => h) ?_ (by assumption) ?_
          rotate_left 2
          focus (simp only [List.getElem?_toArray, List.getElem?_cons_succ, List.getElem?_cons_zero] <;> rfl)
          · refine Or.inl ⟨by rfl, ?_⟩
            intro w hSw
            (try dsimp only at hSw)
            go_simp <;> with_reducible rfl
          (try simp only [Act.put, List.setIfInBounds_toArray, List.set_cons_zero, List.set_cons_succ])
          refine wpAnyH_done (by decide +kernel) ?_ _
          refine NoPanic.normal ?_
          clear KEEP
          go_wp2_with fail
          go_roundw
          case rel => exact ⟨2, by go_num, .inr (.inr (.inl rfl)), Lib.hid ⟨fun _ => HE.out.1 (by decide), fun _ => HQ.out, fun h => absurd h (by decide)⟩, HF_0, HX_0, HY_0, RX_0, RY_0, BB0⟩
          case measure => simp [intOf]
        · have HNE := Lib.hid (show ¬ r.cur = s.cur from fun h => h2 (by rw [h]))
          have HK := Lib.hid h2
          clear h1 h2
          have BB0 := Lib.hid (HB.out.drew)
          have KEEP := Lib.hid (fun w' (hW : Below W.heap.size W w') (hG : Bx w' g7 24 (genC x.cur r.cur)) (hF : Bx w' g5 68 GB) => (show Below W.heap.size W w' ∧ Bx w' g7 24 (genC x.cur r.cur) ∧ Bx w' g5 68 GB from ⟨hW, hG, hF⟩))
          have HG_0 := Lib.hid (Bx.drew H7.out)
          have HF_0 := Lib.hid (Bx.drew H5.out)
          have KA_0 := Lib.hid (KA.out.go ((Below.refl V7.heap.size V7).drew))
          have KB_0 := Lib.hid (KB.out.go ((Below.refl V7.heap.size V7).drew))
          refine wp_region_noPanic ?_
          refine wp_region_held_drew (S := fun w' => Below W.heap.size W w' ∧ Bx w' g7 24 (genC x.cur r.cur) ∧ Bx w' g5 68 GB) (by kernel_rfl) (KEEP.out _ BB0.out HG_0.out HF_0.out) (fun hHeld => ?_)
          obtain ⟨wz0, hwz⟩ : ∃ x, x = V7.drew := ⟨_, rfl⟩
          rw [← hwz] at BB0 hHeld HG_0 HF_0 KA_0 KB_0 ⊢
          clear hwz
          refine wpAnyH_take (i := 0) (oi := ?_) (v := ?_) ?_ (by kernel_rfl) (by decide +kernel) (by decide +kernel) (fun _ _ _ h => h) ?_ (by assumption) ?_
          rotate_left 2
          focus (simp only [List.getElem?_toArray, List.getElem?_cons_zero] <;> rfl)
          · refine Or.inl ⟨by rfl, ?_⟩
            intro w hSw
            (try dsimp only at hSw)
            go_simp <;> with_reducible rfl
          (try simp only [Act.put, List.setIfInBounds_toArray, List.set_cons_zero, List.set_cons_succ])
          refine wpAnyH_take (i := 2) (oi := ?_) (v := ?_) ?_ (by kernel_rfl) (by decide +kernel) (by decide +kernel) (fun _ _ _ h => h) ?_ (by assumption) ?_
          rotate_left 2
          focus (simp only [List.getElem?_toArray, List.getElem?_cons_succ, List.getElem?_cons_zero] <;> rfl)
          · refine Or.inl ⟨by rfl, ?_⟩
            intro w hSw
            (try dsimp only at hSw)
            go_simp <;> with_reducible rfl
          (try simp only [Act.put, List.setIfInBounds_toArray, List.set_cons_zero, List.set_cons_succ])
          refine wpAnyH_take (i := 1) (oi := ?_) (v := ?_) ?_ (by kernel_rfl) (by decide +kernel) (by decide +kernel) (fun _ _ _ h => h) ?_ (by assumption) ?_
          rotate_left 2
          focus (simp only [List.getElem?_toArray, List.getElem?_cons_succ, List.getElem?_cons_zero] <;> rfl)
          · refine Or.inl ⟨by rfl, ?_⟩
            intro w hSw
            have hcell := (hSw.2.1).cell (genC_cn _ _)
            clear hSw
            go_simp <;> with_reducible rfl
          (try simp only [Act.put, List.setIfInBounds_toArray, List.set_cons_zero, List.set_cons_succ])
          refine wpAnyH_take (i := 3) (oi := ?_) (v := ?_) ?_ (by kernel_rfl) (by decide +kernel) (by decide +kernel) (fun _ _ _ h => h) ?_ (by assumption) ?_
          rotate_left 2
          focus (simp only [List.getElem?_toArray, List.getElem?_cons_succ, List.getElem?_cons_zero] <;> rfl)
          · refine Or.inl ⟨by rfl, ?_⟩
            intro w hSw
            (try dsimp only at hSw)
            go_simp <;> with_reducible rfl
          (try simp only [Act.put, List.setIfInBounds_toArray, List.set_cons_zero, List.set_cons_succ])
          refine wpAnyH_take (i := 4) (oi := ?_) (v := ?_) ?_ (by kernel_rfl) (by decide +kernel) (by decide +kernel) (fun _ _ _ h => h) ?_ (by assumption) ?_
          rotate_left 2
          focus (simp only [List.getElem?_toArray, List.getElem?_cons_succ, List.getElem?_cons_zero] <;> rfl)
          · refine Or.inl ⟨by rfl, ?_⟩
            intro w hSw
            (try dsimp only at hSw)
            go_simp <;> with_reducible rfl
          (try simp only [Act.put, List.setIfInBounds_toArray, List.set_cons_zero, List.set_cons_succ])
          refine wpAnyH_take (i := 5) (oi := ?_) (v := ?_) ?_ (by kernel_rfl) (by decide +kernel) (by decide +kernel) (fun _ _ _ h => h) ?_ (by assumption) ?_
          rotate_left 2
          focus (simp only [List.getElem?_toArray, List.getElem?_cons_succ, List.getElem?_cons_zero] <;> rfl)
          · refine Or.inl ⟨by rfl, ?_⟩
            intro w hSw
            have hcell := (hSw.2.2).cell (by rw [HGB.out]; exact (gensC_get y s).2.2.1)
            clear hSw
            go_simp <;> with_reducible rfl
          (try simp only [Act.put, List.setIfInBounds_toArray, List.set_cons_zero, List.set_cons_succ])
          refine wpAnyH_take (i := 6) (oi := ?_) (v := ?_) ?_ (by kernel_rfl) (by decide +kernel) (by decide +kernel) (fun _ _ _ h => h) ?_ (by assumption) ?_
          rotate_left 2
          focus (simp only [List.getElem?_toArray, List.getElem?_cons_succ, List.getElem?_cons_zero] <;> rfl)
          · refine Or.inl ⟨by rfl, ?_⟩
            intro w hSw
            (try dsimp only at hSw)
            go_simp <;> with_reducible rfl
          (try simp only [Act.put, List.setIfInBounds_toArray, List.set_cons_zero, List.set_cons_succ])
          refine wpAnyH_take (i := 7) (oi := ?_) (v := ?_) ?_ (by kernel_rfl) (by decide +kernel) (by decide +kernel) (fun _ _ _ h => h) ?_ (by assumption) ?_
          rotate_left 2
          focus (simp only [List.getElem?_toArray, List.getElem?_cons_succ, List.getElem?_cons_zero] <;> rfl)
          · refine Or.inl ⟨by rfl, ?_⟩
            intro w hSw
            (try dsimp only at hSw)
            go_simp <;> with_reducible rfl
          (try simp only [Act.put, List.setIfInBounds_toArray, List.set_cons_zero, List.set_cons_succ])
          refine wpAnyH_take (i := 8) (oi := ?_) (v := ?_) ?_ (by kernel_rfl) (by decide +kernel) (by decide +kernel) (fun _ _ _ h => h) ?_ (by assumption) ?_
          rotate_left 2
          focus (simp only [List.getElem?_toArray, List.getElem?_cons_succ, List.getElem?_cons_zero] <;> rfl)
          · refine Or.inl ⟨by rfl, ?_⟩
            intro w hSw
            (try dsimp only at hSw)
            go_simp <;> with_reducible rfl
          (try simp only [Act.put, List.setIfInBounds_toArray, List.set_cons_zero, List.set_cons_succ])
          refine wpAnyH_take (i := 10) (oi := ?_) (v := ?_) ?_ (by kernel_rfl) (by decide +kernel) (by decide +kernel) (fun _ _ _ h => h) ?_ (by assumption) ?_
          rotate_left 2
          focus (simp only [List.getElem?_toArray, List.getElem?_cons_succ, List.getElem?_cons_zero] <;> rfl)
          · refine Or.inl ⟨by rfl, ?_⟩
            intro w hSw
            (try dsimp only at hSw)
            go_simp <;> with_reducible rfl
          (try simp only [Act.put, List.setIfInBounds_toArray, List.set_cons_zero, List.set_cons_succ])
          refine wpAnyH_take (i := 9) (oi := ?_) (v := ?_) ?_ (by kernel_rfl) (by decide +kernel) (by decide +kernel) (fun _ _ _ h => h) ?_ (by assumption) ?_
          rotate_left 2
          focus (simp only [List.getElem?_toArray, List.getElem?_cons_succ, List.getElem?_cons_zero] <;> rfl)
          · refine Or.inl ⟨by rfl, ?_⟩
            intro w hSw
            have hcell := (hSw.2.1).cell (genC_ck _ _)
            clear hSw
            go_simp <;> with_reducible rfl
          (try simp only [Act.put, List.setIfInBounds_toArray, List.set_cons_zero, List.set_cons_succ])
          refine wpAnyH_take (i := 11) (oi := ?_) (v := ?_) ?_ (by kernel_rfl) (by decide +kernel) (by decide +kernel) (fun _ _ _ h => h) ?_ (by assumption) ?_
          rotate_left 2
          focus (simp only [List.getElem?_toArray, List.getElem?_cons_succ, List.getElem?_cons_zero] <;> rfl)
          · refine Or.inl ⟨by rfl, ?_⟩
            intro w hSw
            (try dsimp only at hSw)
            go_simp <;> with_reducible rfl
          (try simp only [Act.put, List.setIfInBounds_toArray, List.set_cons_zero, List.set_cons_succ])
          refine wpAnyH_take (i := 12) (oi := ?_) (v := ?_) ?_ (by kernel_rfl) (by decide +kernel) (by decide +kernel) (fun _ _ _ h => h) ?_ (by assumption) ?_
          rotate_left 2
          focus (simp only [List.getElem?_toArray, List.getElem?_cons_succ, List.getElem?_cons_zero] <;> rfl)
          · refine Or.inl ⟨by rfl, ?_⟩
            intro w hSw
            (try dsimp only at hSw)
            go_simp <;> with_reducible rfl
          (try simp only [Act.put, List.setIfInBounds_toArray, List.set_cons_zero, List.set_cons_succ])
          refine wpAnyH_take (i := 13) (oi := ?_) (v := ?_) ?_ (by kernel_rfl) (by decide +kernel) (by decide +kernel) (fun _ _ _ h => h) ?_ (by assumption) ?_
          rotate_left 2
          focus (simp only [List.getElem?_toArray, List.getElem?_cons_succ, List.getElem?_cons_zero] <;> rfl)
          · refine Or.inl ⟨by rfl, ?_⟩
            intro w hSw
            have hcell := (hSw.2.2).cell (by rw [HGB.out]; exact (gensC_get y s).2.2.2.1)
            clear hSw
            go_simp <;> with_reducible rfl
          (try simp only [Act.put, List.setIfInBounds_toArray, List.set_cons_zero, List.set_cons_succ])
          refine wpAnyH_ready (rs := [14]) (by decide +kernel) (by simp) ?_
          refine AllReadyH.cons (o := ?_) ?_ (fun K hK => ?_) AllReadyH.nil
          rotate_left 1
          focus (simp only [List.getElem?_toArray, List.getElem?_cons_succ, List.getElem?_cons_zero] <;> rfl)
          (try rw [if_pos (by rfl)])
          go_simp
          go_at_call 42
          refine (equalK_no HK.out _ KA_0.out KB_0.out).mono ?_
          rintro e wz1 ⟨rfl, hw⟩
          obtain rfl := hw
          refine hK.out _ _ (KEEP.out _ BB0.out HG_0.out HF_0.out) (fun hHeld => ?_)
          clear hK K
          (try simp only [Act.put, List.setIfInBounds_toArray, List.set_cons_zero, List.set_cons_succ])
          refine wpAnyH_take (i := 15) (oi := ?_) (v := ?_) ?_ (by kernel_rfl) (by decide +kernel) (by decide +kernel) (fun _ _ _ h => h) ?_ (by assumption) ?_
          rotate_left 2
          focus (simp only [List.getElem?_toArray, List.getElem?_cons_succ, List.getElem?_cons_zero] <;> rfl)
          · refine Or.inl ⟨by rfl, ?_⟩
            intro w hSw
            (try dsimp only at hSw)
            go_simp <;> with_reducible rfl
          (try simp only [Act.put, List.setIfInBounds_toArray, List.set_cons_zero, List.set_cons_succ])
          refine wpAnyH_take (i := 16) (oi := ?_) (v := ?_) ?_ (by kernel_rfl) (by decide +kernel) (by decide +kernel) (fun _ _ _ h => h) ?_ (by assumption) ?_
          rotate_left 2
          focus (simp only [List.getElem?_toArray, List.getElem?_cons_succ, List.getElem?_cons_zero] <;> rfl)
          · refine Or.inl ⟨by rfl, ?_⟩
            intro w hSw
            (try dsimp only at hSw)
            go_simp <;> with_reducible rfl
          (try simp only [Act.put, List.setIfInBounds_toArray, List.set_cons_zero, List.set_cons_succ])
          refine wpAnyH_done (by decide +kernel) ?_ _
          refine NoPanic.normal ?_
          clear KEEP
          obtain rfl : D = false := HF.out (fun hd => HNE.out (HD.out.1 hd).2.1)
          go_wp2_with fail
          go_ret
          exact ⟨rfl, BB0.out⟩
      · have b1 : (r.cur.no == s.cur.no) = false := beq_eq_false_iff_ne.2 h1
        have b2 : (r.cur.no != s.cur.no) = true := by rw [bne, b1]; rfl
        have HNE := Lib.hid (show ¬ r.cur = s.cur from fun h => h1 (by rw [h]))
        clear h1
        have BB0 := Lib.hid (HB.out.drew)
        have KEEP := Lib.hid (fun w' (hW : Below W.heap.size W w') (hG : Bx w' g7 24 (genC x.cur r.cur)) (hF : Bx w' g5 68 GB) => (show Below W.heap.size W w' ∧ Bx w' g7 24 (genC x.cur r.cur) ∧ Bx w' g5 68 GB from ⟨hW, hG, hF⟩))
        have HG_0 := Lib.hid (Bx.drew H7.out)
        have HF_0 := Lib.hid (Bx.drew H5.out)
        refine wp_region_noPanic ?_
        refine wp_region_held_drew (S := fun w' => Below W.heap.size W w' ∧ Bx w' g7 24 (genC x.cur r.cur) ∧ Bx w' g5 68 GB) (by kernel_rfl) (KEEP.out _ BB0.out HG_0.out HF_0.out) (fun hHeld => ?_)
        obtain ⟨wz0, hwz⟩ : ∃ x, x = V7.drew := ⟨_, rfl⟩
        rw [← hwz] at BB0 hHeld HG_0 HF_0 ⊢
        clear hwz
        refine wpAnyH_take (i := 0) (oi := ?_) (v := ?_) ?_ (by kernel_rfl) (by decide +kernel) (by decide +kernel) (fun _ _ _ h => h) ?_ (by assumption) ?_
        rotate_left 2
        focus (simp only [List.getElem?_toArray, List.getElem?_cons_zero] <;> rfl)
        · refine Or.inl ⟨by rfl, ?_⟩
          intro w hSw
          (try dsimp only at hSw)
          go_simp <;> with_reducible rfl
        (try simp only [Act.put, List.setIfInBounds_toArray, List.set_cons_zero, List.set_cons_succ])
        refine wpAnyH_take (i := 2) (oi := ?_) (v := ?_) ?_ (by kernel_rfl) (by decide +kernel) (by decide +kernel) (fun _ _ _ h => h) ?_ (by assumption) ?_
        rotate_left 2
        focus (simp only [List.getElem?_toArray, List.getElem?_cons_succ, List.getElem?_cons_zero] <;> rfl)
        · refine Or.inl ⟨by rfl, ?_⟩
          intro w hSw
          (try dsimp only at hSw)
          go_simp <;> with_reducible rfl
        (try simp only [Act.put, List.setIfInBounds_toArray, List.set_cons_zero, List.set_cons_succ])
        refine wpAnyH_take (i := 1) (oi := ?_) (v := ?_) ?_ (by kernel_rfl) (by decide +kernel) (by decide +kernel) (fun _ _ _ h => h) ?_ (by assumption) ?_
        rotate_left 2
        focus (simp only [List.getElem?_toArray, List.getElem?_cons_succ, List.getElem?_cons_zero] <;> rfl)
        · refine Or.inl ⟨by rfl, ?_⟩
          intro w hSw
          have hcell := (hSw.2.1).cell (genC_cn _ _)
          clear hSw
          go_simp <;> with_reducible rfl
        (try simp only [Act.put, List.setIfInBounds_toArray, List.set_cons_zero, List.set_cons_succ])
        refine wpAnyH_take (i := 3) (oi := ?_) (v := ?_) ?_ (by kernel_rfl) (by decide +kernel) (by decide +kernel) (fun _ _ _ h => h) ?_ (by assumption) ?_
        rotate_left 2
        focus (simp only [List.getElem?_toArray, List.getElem?_cons_succ, List.getElem?_cons_zero] <;> rfl)
        · refine Or.inl ⟨by rfl, ?_⟩
          intro w hSw
          (try dsimp only at hSw)
          go_simp <;> with_reducible rfl
        (try simp only [Act.put, List.setIfInBounds_toArray, List.set_cons_zero, List.set_cons_succ])
        refine wpAnyH_take (i := 4) (oi := ?_) (v := ?_) ?_ (by kernel_rfl) (by decide +kernel) (by decide +kernel) (fun _ _ _ h => h) ?_ (by assumption) ?_
        rotate_left 2
        focus (simp only [List.getElem?_toArray, List.getElem?_cons_succ, List.getElem?_cons_zero] <;> rfl)
        · refine Or.inl ⟨by rfl, ?_⟩
          intro w hSw
          (try dsimp only at hSw)
          go_simp <;> with_reducible rfl
        (try simp only [Act.put, List.setIfInBounds_toArray, List.set_cons_zero, List.set_cons_succ])
        refine wpAnyH_take (i := 5) (oi := ?_) (v := ?_) ?_ (by kernel_rfl) (by decide +kernel) (by decide +kernel) (fun _ _ _ h => h) ?_ (by assumption) ?_
        rotate_left 2
        focus (simp only [List.getElem?_toArray, List.getElem?_cons_succ, List.getElem?_cons_zero] <;> rfl)
        · refine Or.inl ⟨by rfl, ?_⟩
          intro w hSw
          have hcell := (hSw.2.2).cell (by rw [HGB.out]; exact (gensC_get y s).2.2.1)
          clear hSw
          go_simp <;> with_reducible rfl
        (try simp only [Act.put, List.setIfInBounds_toArray, List.set_cons_zero, List.set_cons_succ])
        refine wpAnyH_take (i := 6) (oi := ?_) (v := ?_) ?_ (by kernel_rfl) (by decide +kernel) (by decide +kernel) (fun _ _ _ h => h) ?_ (by assumption) ?_
        rotate_left 2
        focus (simp only [List.getElem?_toArray, List.getElem?_cons_succ, List.getElem?_cons_zero] <;> rfl)
        · refine Or.inl ⟨by rfl, ?_⟩
          intro w hSw
          (try dsimp only at hSw)
          go_simp <;> with_reducible rfl
        (try simp only [Act.put, List.setIfInBounds_toArray, List.set_cons_zero, List.set_cons_succ])
        refine wpAnyH_take (i := 7) (oi := ?_) (v := ?_) ?_ (by kernel_rfl) (by decide +kernel) (by decide +kernel) (fun _ _ _ h => h) ?_ (by assumption) ?_
        rotate_left 2
        focus (simp only [List.getElem?_toArray, List.getElem?_cons_succ, List.getElem?_cons_zero] <;> rfl)
        · refine Or.inl ⟨by rfl, ?_⟩
          intro w hSw
          (try dsimp only at hSw)
          go_simp <;> with_reducible rfl
        (try simp only [Act.put, List.setIfInBounds_toArray, List.set_cons_zero, List.set_cons_succ])
        refine wpAnyH_take (i := 8) (oi := ?_) (v := undef) ?_ (by kernel_rfl) (by decide +kernel) (by decide +kernel) (fun _ _ _ h => h) ?_ (by assumption) ?_
        rotate_left 1
        focus (simp only [List.getElem?_toArray, List.getElem?_cons_succ, List.getElem?_cons_zero] <;> rfl)
        · exact Or.inr ⟨by rfl, rfl⟩
        (try simp only [Act.put, List.setIfInBounds_toArray, List.set_cons_zero, List.set_cons_succ])
        refine wpAnyH_take (i := 10) (oi := ?_) (v := undef) ?_ (by kernel_rfl) (by decide +kernel) (by decide +kernel) (fun _ _ _ h => h) ?_ (by assumption) ?_
        rotate_left 1
        focus (simp only [List.getElem?_toArray, List.getElem?_cons_succ, List.getElem?_cons_zero] <;> rfl)
        · exact Or.inr ⟨by rfl, rfl⟩
        (try simp only [Act.put, List.setIfInBounds_toArray, List.set_cons_zero, List.set_cons_succ])
        refine wpAnyH_take (i := 9) (oi := ?_) (v := undef) ?_ (by kernel_rfl) (by decide +kernel) (by decide +kernel) (fun _ _ _ h => h) ?_ (by assumption) ?_
        rotate_left 1
        focus (simp only [List.getElem?_toArray, List.getElem?_cons_succ, List.getElem?_cons_zero] <;> rfl)
        · exact Or.inr ⟨by rfl, rfl⟩
        (try simp only [Act.put, List.setIfInBounds_toArray, List.set_cons_zero, List.set_cons_succ])
        refine wpAnyH_take (i := 11) (oi := ?_) (v := undef) ?_ (by kernel_rfl) (by decide +kernel) (by decide +kernel) (fun _ _ _ h => h) ?_ (by assumption) ?_
        rotate_left 1
        focus (simp only [List.getElem?_toArray, List.getElem?_cons_succ, List.getElem?_cons_zero] <;> rfl)
        · exact Or.inr ⟨by rfl, rfl⟩
        (try simp only [Act.put, List.setIfInBounds_toArray, List.set_cons_zero, List.set_cons_succ])
        refine wpAnyH_take (i := 12) (oi := ?_) (v := undef) ?_ (by kernel_rfl) (by decide +kernel) (by decide +kernel) (fun _ _ _ h => h) ?_ (by assumption) ?_
        rotate_left 1
        focus (simp only [List.getElem?_toArray, List.getElem?_cons_succ, List.getElem?_cons_zero] <;> rfl)
        · exact Or.inr ⟨by rfl, rfl⟩
        (try simp only [Act.put, List.setIfInBounds_toArray, List.set_cons_zero, List.set_cons_succ])
        refine wpAnyH_take (i := 13) (oi := ?_) (v := undef) ?_ (by kernel_rfl) (by decide +kernel) (by decide +kernel) (fun _ _ _ h => h) ?_ (by assumption) ?_
        rotate_left 1
        focus (simp only [List.getElem?_toArray, List.getElem?_cons_succ, List.getElem?_cons_zero] <;> rfl)
        · exact Or.inr ⟨by rfl, rfl⟩
        (try simp only [Act.put, List.setIfInBounds_toArray, List.set_cons_zero, List.set_cons_succ])
        refine wpAnyH_take (i := 14) (oi := ?_) (v := undef) ?_ (by kernel_rfl) (by decide +kernel) (by decide +kernel) (fun _ _ _ h => h) ?_ (by assumption) ?_
        rotate_left 1
        focus (simp only [List.getElem?_toArray, List.getElem?_cons_succ, List.getElem?_cons_zero] <;> rfl)
        · exact Or.inr ⟨by rfl, rfl⟩
        (try simp only [Act.put, List.setIfInBounds_toArray, List.set_cons_zero, List.set_cons_succ])
        refine wpAnyH_take (i := 15) (oi := ?_) (v := undef) ?_ (by kernel_rfl) (by decide +kernel) (by decide +kernel) (fun _ _ _ h => h) ?_ (by assumption) ?_
        rotate_left 1
        focus (simp only [List.getElem?_toArray, List.getElem?_cons_succ, List.getElem?_cons_zero] <;> rfl)
        · exact Or.inr ⟨by rfl, rfl⟩
        (try simp only [Act.put, List.setIfInBounds_toArray, List.set_cons_zero, List.set_cons_succ])
        refine wpAnyH_take (i := 16) (oi := ?_) (v := ?_) ?_ (by kernel_rfl) (by decide +kernel) (by decide +kernel) (fun _ _ _ h => h) ?_ (by assumption) ?_
        rotate_left 2
        focus (simp only [List.getElem?_toArray, List.getElem?_cons_succ, List.getElem?_cons_zero] <;> rfl)
        · refine Or.inl ⟨by rfl, ?_⟩
          intro w hSw
          (try dsimp only at hSw)
          go_simp <;> with_reducible rfl
        (try simp only [Act.put, List.setIfInBounds_toArray, List.set_cons_zero, List.set_cons_succ])
        refine wpAnyH_done (by decide +kernel) ?_ _
        refine NoPanic.normal ?_
        clear KEEP
        obtain rfl : D = false := HF.out (fun hd => HNE.out (HD.out.1 hd).2.1)
        go_wp2_with fail
        go_ret
        exact ⟨rfl, BB0.out⟩
    · obtain ⟨V7, hV7⟩ : ∃ z, z = wr.alloc (.cells #[.int .i64 r.pend.no, .slice x.pend.1 r.pend.key.length x.pend.2] 24) := ⟨_, rfl⟩
      obtain ⟨g7, hg7⟩ : ∃ g, g = wr.heap.size := ⟨_, rfl⟩
      have ha := (Below.refl wr.heap.size wr).alloc (Nat.le_refl _) (.cells (genC x.pend r.pend) 24)
      have hx := Bx.new wr 24 (genC x.pend r.pend)
      rw [show wr.alloc (.cells (genC x.pend r.pend) 24) = V7 from hV7.symm] at ha hx
      rw [← hg7] at hx
      have nHB := Lib.hid (belG HB.out ha HB.out.size)
      have nHG := Lib.hid (Bx.go HG.out ha)
      have nHJ := Lib.hid (Bx.go HJ.out ha)
      have nH5 := Lib.hid (Bx.go H5.out ha)
      have nHKA := Lib.hid (HKA.out.go ha)
      have nHKB := Lib.hid (HKB.out.go ha)
      have H7 := Lib.hid hx
      have KA := Lib.hid nHKA.out.2.2
      have KB := Lib.hid nHKB.out.2.2
      have HV7 := Lib.hid hV7
      have HG7 := Lib.hid hg7
      clear hV7 hg7 ha hx HB HG HJ H5 HKA HKB
      have HB := nHB
      have HG := nHG
      have HJ := nHJ
      have H5 := nH5
      have HKA := nHKA
      have HKB := nHKB
      clear nHB nHG nHJ nH5 nHKA nHKB
      have hix := fun w => index_g2 (.int .i64 r.old.no) (.slice x.old.1 r.old.key.length x.old.2) (.int .i64 r.cur.no) (.slice x.cur.1 r.cur.key.length x.cur.2) (.int .i64 r.pend.no) (.slice x.pend.1 r.pend.key.length x.pend.2) w
      go_upto_region 5 with (fail)
      clear hix
      rw [← HV7.out]
      (try rw [← HG7.out])
      clear HV7 HG7
      by_cases h1 : r.pend.no = s.pend.no
      · have b1 : (r.pend.no == s.pend.no) = true := by rw [h1]; exact beq_self_eq_true _
        have b2 : (r.pend.no != s.pend.no) = false := by rw [bne, b1]; rfl
        by_cases h2 : r.pend.key = s.pend.key
        · have HQ := Lib.hid (Gn.ext' h1 h2)
          have HK := Lib.hid h2
          clear h1 h2
          clear HF HD
          have BB0 := Lib.hid (HB.out.drew)
          have KEEP := Lib.hid (fun w' (hW : Below W.heap.size W w') (hG : Bx w' g7 24 (genC x.pend r.pend)) (hF : Bx w' g5 68 GB) => (show Below W.heap.size W w' ∧ Bx w' g7 24 (genC x.pend r.pend) ∧ Bx w' g5 68 GB from ⟨hW, hG, hF⟩))
          have HG_0 := Lib.hid (Bx.drew H7.out)
          have HF_0 := Lib.hid (Bx.drew H5.out)
          have HX_0 := Lib.hid (Bx.drew HG.out)
          have HY_0 := Lib.hid (Bx.drew HJ.out)
          have KA_0 := Lib.hid (KA.out.go ((Below.refl V7.heap.size V7).drew))
          have KB_0 := Lib.hid (KB.out.go ((Below.refl V7.heap.size V7).drew))
          have RX_0 := Lib.hid (HKA.out.go ((Below.refl V7.heap.size V7).drew))
          have RY_0 := Lib.hid (HKB.out.go ((Below.refl V7.heap.size V7).drew))
          refine wp_region_noPanic ?_
          refine wp_region_held_drew (S := fun w' => Below W.heap.size W w' ∧ Bx w' g7 24 (genC x.pend r.pend) ∧ Bx w' g5 68 GB) (by kernel_rfl) (KEEP.out _ BB0.out HG_0.out HF_0.out) (fun hHeld => ?_)
          obtain ⟨wz0, hwz⟩ : ∃ x, x = V7.drew := ⟨_, rfl⟩
          rw [← hwz] at BB0 hHeld HG_0 HF_0 HX_0 HY_0 KA_0 KB_0 RX_0 RY_0 ⊢
          clear hwz
          refine wpAnyH_take (i := 0) (oi := ?_) (v := ?_) ?_ (by kernel_rfl) (by decide +kernel) (by decide +kernel) (fun _ _ _ h => h) ?_ (by assumption) ?_
          rotate_left 2
          focus (simp only [List.getElem?_toArray, List.getElem?_cons_zero] <;> rfl)
          · refine Or.inl ⟨by rfl, ?_⟩
            intro w hSw
            (try dsimp only at hSw)
            go_simp <;> with_reducible rfl
          (try simp only [Act.put, List.setIfInBounds_toArray, List.set_cons_zero, List.set_cons_succ])
          refine wpAnyH_take (i := 2) (oi := ?_) (v := ?_) ?_ (by kernel_rfl) (by decide +kernel) (by decide +kernel) (fun _ _ _ h => h) ?_ (by assumption) ?_
          rotate_left 2
          focus (simp only [List.getElem?_toArray, List.getElem?_cons_succ, List.getElem?_cons_zero] <;> rfl)
          · refine Or.inl ⟨by rfl, ?_⟩
            intro w hSw
            (try dsimp only at hSw)
            go_simp <;> with_reducible rfl
          (try simp only [Act.put, List.setIfInBounds_toArray, List.set_cons_zero, List.set_cons_succ])
          refine wpAnyH_take (i := 1) (oi := ?_) (v := ?_) ?_ (by kernel_rfl) (by decide +kernel) (by decide +kernel) (fun _ _ _ h => h) ?_ (by assumption) ?_
          rotate_left 2
          focus (simp only [List.getElem?_toArray, List.getElem?_cons_succ, List.getElem?_cons_zero] <;> rfl)
          · refine Or.inl ⟨by rfl, ?_⟩
            intro w hSw
            have hcell := (hSw.2.1).cell (genC_cn _ _)
            clear hSw
            go_simp <;> with_reducible rfl
          (try simp only [Act.put, List.setIfInBounds_toArray, List.set_cons_zero, List.set_cons_succ])
          refine wpAnyH_take (i := 3) (oi := ?_) (v := ?_) ?_ (by kernel_rfl) (by decide +kernel) (by decide +kernel) (fun _ _ _ h => h) ?_ (by assumption) ?_
          rotate_left 2
          focus (simp only [List.getElem?_toArray, List.getElem?_cons_succ, List.getElem?_cons_zero] <;> rfl)
          · refine Or.inl ⟨by rfl, ?_⟩
            intro w hSw
            (try dsimp only at hSw)
            go_simp <;> with_reducible rfl
          (try simp only [Act.put, List.setIfInBounds_toArray, List.set_cons_zero, List.set_cons_succ])
          refine wpAnyH_take (i := 4) (oi := ?_) (v := ?_) ?_ (by kernel_rfl) (by decide +kernel) (by decide +kernel) (fun _ _ _ h => h) ?_ (by assumption) ?_
          rotate_left 2
          focus (simp only [List.getElem?_toArray, List.getElem?_cons_succ, List.getElem?_cons_zero] <;> rfl)
          · refine Or.inl ⟨by rfl, ?_⟩
            intro w hSw
            (try dsimp only at hSw)
            go_simp <;> with_reducible rfl
          (try simp only [Act.put, List.setIfInBounds_toArray, List.set_cons_zero, List.set_cons_succ])
          refine wpAnyH_take (i := 5) (oi := ?_) (v := ?_) ?_ (by kernel_rfl) (by decide +kernel) (by decide +kernel) (fun _ _ _ h => h) ?_ (by assumption) ?_
          rotate_left 2
          focus (simp only [List.getElem?_toArray, List.getElem?_cons_succ, List.getElem?_cons_zero] <;> rfl)
          · refine Or.inl ⟨by rfl, ?_⟩
            intro w hSw
            have hcell := (hSw.2.2).cell (by rw [HGB.out]; exact (gensC_get y s).2.2.2.2.1)
            clear hSw
            go_simp <;> with_reducible rfl
          (try simp only [Act.put, List.setIfInBounds_toArray, List.set_cons_zero, List.set_cons_succ])
          refine wpAnyH_take (i := 6) (oi := ?_) (v := ?_) ?_ (by kernel_rfl) (by decide +kernel) (by decide +kernel) (fun _ _ _ h => h) ?_ (by assumption) ?_
          rotate_left 2
          focus (simp only [List.getElem?_toArray, List.getElem?_cons_succ, List.getElem?_cons_zero] <;> rfl)
          · refine Or.inl ⟨by rfl, ?_⟩
            intro w hSw
            (try dsimp only at hSw)
            go_simp <;> with_reducible rfl
          (try simp only [Act.put, List.setIfInBounds_toArray, List.set_cons_zero, List.set_cons_succ])
          refine wpAnyH_take (i := 7) (oi := ?_) (v := ?_) ?_ (by kernel_rfl) (by decide +kernel) (by decide +kernel) (fun _ _ _ h => h) ?_ (by assumption) ?_
          rotate_left 2
          focus (simp only [List.getElem?_toArray, List.getElem?_cons_succ, List.getElem?_cons_zero] <;> rfl)
          · refine Or.inl ⟨by rfl, ?_⟩
            intro w hSw
            (try dsimp only at hSw)
            go_simp <;> with_reducible rfl
          (try simp only [Act.put, List.setIfInBounds_toArray, List.set_cons_zero, List.set_cons_succ])
          refine wpAnyH_take (i := 8) (oi := ?_) (v := ?_) ?_ (by kernel_rfl) (by decide +kernel) (by decide +kernel) (fun _ _ _ h => h) ?_ (by assumption) ?_
          rotate_left 2
          focus (simp only [List.getElem?_toArray, List.getElem?_cons_succ, List.getElem?_cons_zero] <;> rfl)
          · refine Or.inl ⟨by rfl, ?_⟩
            intro w hSw
            (try dsimp only at hSw)
            go_simp <;> with_reducible rfl
          (try simp only [Act.put, List.setIfInBounds_toArray, List.set_cons_zero, List.set_cons_succ])
          refine wpAnyH_take (i := 10) (oi := ?_) (v := ?_) ?_ (by kernel_rfl) (by decide +kernel) (by decide +kernel) (fun _ _ _ h => h) ?_ (by assumption) ?_
          rotate_left 2
          focus (simp only [List.getElem?_toArray, List.getElem?_cons_succ, List.getElem?_cons_zero] <;> rfl)
          · refine Or.inl ⟨by rfl, ?_⟩
            intro w hSw
            (try dsimp only at hSw)
            go_simp <;> with_reducible rfl
          (try simp only [Act.put, List.setIfInBounds_toArray, List.set_cons_zero, List.set_cons_succ])
          refine wpAnyH_take (i := 9) (oi := ?_) (v := ?_) ?_ (by kernel_rfl) (by decide +kernel) (by decide +kernel) (fun _ _ _ h => h) ?_ (by assumption) ?_
          rotate_left 2
          focus (simp only [List.getElem?_toArray, List.getElem?_cons_succ, List.getElem?_cons_zero] <;> rfl)
          · refine Or.inl ⟨by rfl, ?_⟩
            intro w hSw
            have hcell := (hSw.2.1).cell (genC_ck _ _)
            clear hSw
            go_simp <;> with_reducible rfl
          (try simp only [Act.put, List.setIfInBounds_toArray, List.set_cons_zero, List.set_cons_succ])
          refine wpAnyH_take (i := 11) (oi := ?_) (v := ?_) ?_ (by kernel_rfl) (by decide +kernel) (by decide +kernel) (fun _ _ _ h => h) ?_ (by assumption) ?_
          rotate_left 2
          focus (simp only [List.getElem?_toArray, List.getElem?_cons_succ, List.getElem?_cons_zero] <;> rfl)
          · refine Or.inl ⟨by rfl, ?_⟩
            intro w hSw
            (try dsimp only at hSw)
            go_simp <;> with_reducible rfl
          (try simp only [Act.put, List.setIfInBounds_toArray, List.set_cons_zero, List.set_cons_succ])
          refine wpAnyH_take (i := 12) (oi := ?_) (v := ?_) ?_ (by kernel_rfl) (by decide +kernel) (by decide +kernel) (fun _ _ _ h => h) ?_ (by assumption) ?_
          rotate_left 2
          focus (simp only [List.getElem?_toArray, List.getElem?_cons_succ, List.getElem?_cons_zero] <;> rfl)
          · refine Or.inl ⟨by rfl, ?_⟩
            intro w hSw
            (try dsimp only at hSw)
            go_simp <;> with_reducible rfl
          (try simp only [Act.put, List.setIfInBounds_toArray, List.set_cons_zero, List.set_cons_succ])
          refine wpAnyH_take (i := 13) (oi := ?_) (v := ?_) ?_ (by kernel_rfl) (by decide +kernel) (by decide +kernel) (fun _ _ _ h => h) ?_ (by assumption) ?_
          rotate_left 2
          focus (simp only [List.getElem?_toArray, List.getElem?_cons_succ, List.getElem?_cons_zero] <;> rfl)
          · refine Or.inl ⟨by rfl, ?_⟩
            intro w hSw
            have hcell := (hSw.2.2).cell (by rw [HGB.out]; exact (gensC_get y s).2.2.2.2.2)
            clear hSw
            go_simp <;> with_reducible rfl
          (try simp only [Act.put, List.setIfInBounds_toArray, List.set_cons_zero, List.set_cons_succ])
          refine wpAnyH_ready (rs := [14]) (by decide +kernel) (by simp) ?_
          refine AllReadyH.cons (o := ?_) ?_ (fun K hK => ?_) AllReadyH.nil
          rotate_left 1
          focus (simp only [List.getElem?_toArray, List.getElem?_cons_succ, List.getElem?_cons_zero] <;> rfl)
          (try rw [if_pos (by rfl)])
          go_simp
          go_at_call 42
          refine (equalK_yes HK.out _ KA_0.out KB_0.out).mono ?_
          rintro e wz1 ⟨rfl, hw⟩
          obtain rfl := hw
          refine hK.out _ _ (KEEP.out _ BB0.out HG_0.out HF_0.out) (fun hHeld => ?_)
          clear hK K
          (try simp only [Act.put, List.setIfInBounds_toArray, List.set_cons_zero, List.set_cons_succ])
          refine wpAnyH_take (i := 15) (oi := ?_) (v := ?_) ?_ (by kernel_rfl) (by decide +kernel) (by decide +kernel) (fun _ _ _ h => h) ?_ (by assumption) ?_
          rotate_left 2
          focus (simp only [List.getElem?_toArray, List.getElem?_cons_succ, List.getElem?_cons_zero] <;> rfl)
          · refine Or.inl ⟨by rfl, ?_⟩
            intro w hSw
            (try dsimp only at hSw)
            go_simp <;> with_reducible rfl
          (try simp only [Act.put, List.setIfInBounds_toArray, List.set_cons_zero, List.set_cons_succ])
          refine wpAnyH_take (i := 16) (oi := ?_) (v := ?_) ?_ (by kernel_rfl) (by decide +kernel) (by decide +kernel) (fun _ _ _ h => h) ?_ (by assumption) ?_
          rotate_left 2
          focus (simp only [List.getElem?_toArray, List.getElem?_cons_succ, List.getElem?_cons_zero] <;> rfl)
          · refine Or.inl ⟨by rfl, ?_⟩
            intro w hSw
            (try dsimp only at hSw)
            go_simp <;> with_reducible rfl
          (try simp only [Act.put, List.setIfInBounds_toArray, List.set_cons_zero, List.set_cons_succ])
          refine wpAnyH_done (by decide +kernel) ?_ _
          refine NoPanic.normal ?_
          clear KEEP
          go_wp2_with fail
          go_roundw
          case rel => exact ⟨3, by go_num, .inr (.inr (.inr rfl)), Lib.hid ⟨fun _ => HE.out.1 (by decide), fun _ => HE.out.2.1 (by decide), fun _ => HQ.out⟩, HF_0, HX_0, HY_0, RX_0, RY_0, BB0⟩
          case measure => simp [intOf]
        · have HNE := Lib.hid (show ¬ r.pend = s.pend from fun h => h2 (by rw [h]))
          have HK := Lib.hid h2
          clear h1 h2
          have BB0 := Lib.hid (HB.out.drew)
          have KEEP := Lib.hid (fun w' (hW : Below W.heap.size W w') (hG : Bx w' g7 24 (genC x.pend r.pend)) (hF : Bx w' g5 68 GB) => (show Below W.heap.size W w' ∧ Bx w' g7 24 (genC x.pend r.pend) ∧ Bx w' g5 68 GB from ⟨hW, hG, hF⟩))
          have HG_0 := Lib.hid (Bx.drew H7.out)
          have HF_0 := Lib.hid (Bx.drew H5.out)
          have KA_0 := Lib.hid (KA.out.go ((Below.refl V7.heap.size V7).drew))
          have KB_0 := Lib.hid (KB.out.go ((Below.refl V7.heap.size V7).drew))
          refine wp_region_noPanic ?_
          refine wp_region_held_drew (S := fun w' => Below W.heap.size W w' ∧ Bx w' g7 24 (genC x.pend r.pend) ∧ Bx w' g5 68 GB) (by kernel_rfl) (KEEP.out _ BB0.out HG_0.out HF_0.out) (fun hHeld => ?_)
          obtain ⟨wz0, hwz⟩ : ∃ x, x = V7.drew := ⟨_, rfl⟩
          rw [← hwz] at BB0 hHeld HG_0 HF_0 KA_0 KB_0 ⊢
          clear hwz
          refine wpAnyH_take (i := 0) (oi := ?_) (v := ?_) ?_ (by kernel_rfl) (by decide +kernel) (by decide +kernel) (fun _ _ _ h => h) ?_ (by assumption) ?_
          rotate_left 2
          focus (simp only [List.getElem?_toArray, List.getElem?_cons_zero] <;> rfl)
          · refine Or.inl ⟨by rfl, ?_⟩
            intro w hSw
            (try dsimp only at hSw)
            go_simp <;> with_reducible rfl
          (try simp only [Act.put, List.setIfInBounds_toArray, List.set_cons_zero, List.set_cons_succ])
          refine wpAnyH_take (i := 2) (oi := ?_) (v := ?_) ?_ (by kernel_rfl) (by decide +kernel) (by decide +kernel) (fun _ _ _ h => h) ?_ (by assumption) ?_
          rotate_left 2
          focus (simp only [List.getElem?_toArray, List.getElem?_cons_succ, List.getElem?_cons_zero] <;> rfl)
          · refine Or.inl ⟨by rfl, ?_⟩
            intro w hSw
            (try dsimp only at hSw)
            go_simp <;> with_reducible rfl
          (try simp only [Act.put, List.setIfInBounds_toArray, List.set_cons_zero, List.set_cons_succ])
          refine wpAnyH_take (i := 1) (oi := ?_) (v := ?_) ?_ (by kernel_rfl) (by decide +kernel) (by decide +kernel) (fun _ _ _ h => h) ?_ (by assumption) ?_
          rotate_left 2
          focus (simp only [List.getElem?_toArray, List.getElem?_cons_succ, List.getElem?_cons_zero] <;> rfl)
          · refine Or.inl ⟨by rfl, ?_⟩
            intro w hSw
            have hcell := (hSw.2.1).cell (genC_cn _ _)
            clear hSw
            go_simp <;> with_reducible rfl
          (try simp only [Act.put, List.setIfInBounds_toArray, List.set_cons_zero, List.set_cons_succ])
          refine wpAnyH_take (i := 3) (oi := ?_) (v := ?_) ?_ (by kernel_rfl) (by decide +kernel) (by decide +kernel) (fun _ _ _ h => h) ?_ (by assumption) ?_
          rotate_left 2
          focus (simp only [List.getElem?_toArray, List.getElem?_cons_succ, List.getElem?_cons_zero] <;> rfl)
          · refine Or.inl ⟨by rfl, ?_⟩
            intro w hSw
            (try dsimp only at hSw)
            go_simp <;> with_reducible rfl
          (try simp only [Act.put, List.setIfInBounds_toArray, List.set_cons_zero, List.set_cons_succ])
          refine wpAnyH_take (i := 4) (oi := ?_) (v := ?_) ?_ (by kernel_rfl) (by decide +kernel) (by decide +kernel) (fun _ _ _ h => h) ?_ (by assumption) ?_
          rotate_left 2
          focus (simp only [List.getElem?_toArray, List.getElem?_cons_succ, List.getElem?_cons_zero] <;> rfl)
          · refine Or.inl ⟨by rfl, ?_⟩
            intro w hSw
            (try dsimp only at hSw)
            go_simp <;> with_reducible rfl
          (try simp only [Act.put, List.setIfInBounds_toArray, List.set_cons_zero, List.set_cons_succ])
          refine wpAnyH_take (i := 5) (oi := ?_) (v := ?_) ?_ (by kernel_rfl) (by decide +kernel) (by decide +kernel) (fun _ _ _ h => h) ?_ (by assumption) ?_
          rotate_left 2
          focus (simp only [List.getElem?_toArray, List.getElem?_cons_succ, List.getElem?_cons_zero] <;> rfl)
          · refine Or.inl ⟨by rfl, ?_⟩
            intro w hSw
            have hcell := (hSw.2.2).cell (by rw [HGB.out]; exact (gensC_get y s).2.2.2.2.1)
            clear hSw
            go_simp <;> with_reducible rfl
          (try simp only [Act.put, List.setIfInBounds_toArray, List.set_cons_zero, List.set_cons_succ])
          refine wpAnyH_take (i := 6) (oi := ?_) (v := ?_) ?_ (by kernel_rfl) (by decide +kernel) (by decide +kernel) (fun _ _ _ h => h) ?_ (by assumption) ?_
          rotate_left 2
          focus (simp only [List.getElem?_toArray, List.getElem?_cons_succ, List.getElem?_cons_zero] <;> rfl)
          · refine Or.inl ⟨by rfl, ?_⟩
            intro w hSw
            (try dsimp only at hSw)
            go_simp <;> with_reducible rfl
          (try simp only [Act.put, List.setIfInBounds_toArray, List.set_cons_zero, List.set_cons_succ])
          refine wpAnyH_take (i := 7) (oi := ?_) (v := ?_) ?_ (by kernel_rfl) (by decide +kernel) (by decide +kernel) (fun _ _ _ h => h) ?_ (by assumption) ?_
          rotate_left 2
          focus (simp only [List.getElem?_toArray, List.getElem?_cons_succ, List.getElem?_cons_zero] <;> rfl)
          · refine Or.inl ⟨by rfl, ?_⟩
            intro w hSw
            (try dsimp only at hSw)
            go_simp <;> with_reducible rfl
          (try simp only [Act.put, List.setIfInBounds_toArray, List.set_cons_zero, List.set_cons_succ])
          refine wpAnyH_take (i := 8) (oi := ?_) (v := ?_) ?_ (by kernel_rfl) (by decide +kernel) (by decide +kernel) (fun _ _ _ h => h) ?_ (by assumption) ?_
          rotate_left 2
          focus (simp only [List.getElem?_toArray, List.getElem?_cons_succ, List.getElem?_cons_zero] <;> rfl)
          · refine Or.inl ⟨by rfl, ?_⟩
            intro w hSw
            (try dsimp only at hSw)
            go_simp <;> with_reducible rfl
          (try simp only [Act.put, List.setIfInBounds_toArray, List.set_cons_zero, List.set_cons_succ])
          refine wpAnyH_take (i := 10) (oi := ?_) (v := ?_) ?_ (by kernel_rfl) (by decide +kernel) (by decide +kernel) (fun _ _ _ h => h) ?_ (by assumption) ?_
          rotate_left 2
          focus (simp only [List.getElem?_toArray, List.getElem?_cons_succ, List.getElem?_cons_zero] <;> rfl)
          · refine Or.inl ⟨by rfl, ?_⟩
            intro w hSw
            (try dsimp only at hSw)
            go_simp <;> with_reducible rfl
          (try simp only [Act.put, List.setIfInBounds_toArray, List.set_cons_zero, List.set_cons_succ])
          refine wpAnyH_take (i := 9) (oi := ?_) (v := ?_) ?_ (by kernel_rfl) (by decide +kernel) (by decide +kernel) (fun _ _ _ h => h) ?_ (by assumption) ?_
          rotate_left 2
          focus (simp only [List.getElem?_toArray, List.getElem?_cons_succ, List.getElem?_cons_zero] <;> rfl)
          · refine Or.inl ⟨by rfl, ?_⟩
            intro w hSw
            have hcell := (hSw.2.1).cell (genC_ck _ _)
            clear hSw
            go_simp <;> with_reducible rfl
          (try simp only [Act.put, List.setIfInBounds_toArray, List.set_cons_zero, List.set_cons_succ])
          refine wpAnyH_take (i := 11) (oi := ?_) (v := ?_) ?_ (by kernel_rfl) (by decide +kernel) (by decide +kernel) (fun _ _ _ h => h) ?_ (by assumption) ?_
          rotate_left 2
          focus (simp only [List.getElem?_toArray, List.getElem?_cons_succ, List.getElem?_cons_zero] <;> rfl)
          · refine Or.inl ⟨by rfl, ?_⟩
            intro w hSw
            (try dsimp only at hSw)
            go_simp <;> with_reducible rfl
          (try simp only [Act.put, List.setIfInBounds_toArray, List.set_cons_zero, List.set_cons_succ])
          refine wpAnyH_take (i := 12) (oi := ?_) (v := ?_) ?_ (by kernel_rfl) (by decide +kernel) (by decide +kernel) (fun _ _ _ h => h) ?_ (by assumption) ?_
          rotate_left 2
          focus (simp only [List.getElem?_toArray, List.getElem?_cons_succ, List.getElem?_cons_zero] <;> rfl)
          · refine Or.inl ⟨by rfl, ?_⟩
            intro w hSw
            (try dsimp only at hSw)
            go_simp <;> with_reducible rfl
          (try simp only [Act.put, List.setIfInBounds_toArray, List.set_cons_zero, List.set_cons_succ])
          refine wpAnyH_take (i := 13) (oi := ?_) (v := ?_) ?_ (by kernel_rfl) (by decide +kernel) (by decide +kernel) (fun _ _ _ h => h) ?_ (by assumption) ?_
          rotate_left 2
          focus (simp only [List.getElem?_toArray, List.getElem?_cons_succ, List.getElem?_cons_zero] <;> rfl)
          · refine Or.inl ⟨by rfl, ?_⟩
            intro w hSw
            have hcell := (hSw.2.2).cell (by rw [HGB.out]; exact (gensC_get y s).2.2.2.2.2)
            clear hSw
            go_simp <;> with_reducible rfl
          (try simp only [Act.put, List.setIfInBounds_toArray, List.set_cons_zero, List.set_cons_succ])
          refine wpAnyH_ready (rs := [14]) (by decide +kernel) (by simp) ?_
          refine AllReadyH.cons (o := ?_) ?_ (fun K hK => ?_) AllReadyH.nil
          rotate_left 1
          focus (simp only [List.getElem?_toArray, List.getElem?_cons_succ, List.getElem?_cons_zero] <;> rfl)
          (try rw [if_pos (by rfl)])
          go_simp
          go_at_call 42
          refine (equalK_no HK.out _ KA_0.out KB_0.out).mono ?_
          rintro e wz1 ⟨rfl, hw⟩
          obtain rfl := hw
          refine hK.out _ _ (KEEP.out _ BB0.out HG_0.out HF_0.out) (fun hHeld => ?_)
          clear hK K
          (try simp only [Act.put, List.setIfInBounds_toArray, List.set_cons_zero, List.set_cons_succ])
          refine wpAnyH_take (i := 15) (oi := ?_) (v := ?_) ?_ (by kernel_rfl) (by decide +kernel) (by decide +kernel) (fun _ _ _ h => h) ?_ (by assumption) ?_
          rotate_left 2
          focus (simp only [List.getElem?_toArray, List.getElem?_cons_succ, List.getElem?_cons_zero] <;> rfl)
          · refine Or.inl ⟨by rfl, ?_⟩
            intro w hSw
            (try dsimp only at hSw)
            go_simp <;> with_reducible rfl
          (try simp only [Act.put, List.setIfInBounds_toArray, List.set_cons_zero, List.set_cons_succ])
          refine wpAnyH_take (i := 16) (oi := ?_) (v := ?_) ?_ (by kernel_rfl) (by decide +kernel) (by decide +kernel) (fun _ _ _ h => h) ?_ (by assumption) ?_
          rotate_left 2
          focus (simp only [List.getElem?_toArray, List.getElem?_cons_succ, List.getElem?_cons_zero] <;> rfl)
          · refine Or.inl ⟨by rfl, ?_⟩
            intro w hSw
            (try dsimp only at hSw)
            go_simp <;> with_reducible rfl
          (try simp only [Act.put, List.setIfInBounds_toArray, List.set_cons_zero, List.set_cons_succ])
          refine wpAnyH_done (by decide +kernel) ?_ _
          refine NoPanic.normal ?_
          clear KEEP
          obtain rfl : D = false := HF.out (fun hd => HNE.out (HD.out.1 hd).2.2.1)
          go_wp2_with fail
          go_ret
          exact ⟨rfl, BB0.out⟩
      · have b1 : (r.pend.no == s.pend.no) = false := beq_eq_false_iff_ne.2 h1
        have b2 : (r.pend.no != s.pend.no) = true := by rw [bne, b1]; rfl
        have HNE := Lib.hid (show ¬ r.pend = s.pend from fun h => h1 (by rw [h]))
        clear h1
        have BB0 := Lib.hid (HB.out.drew)
        have KEEP := Lib.hid (fun w' (hW : Below W.heap.size W w') (hG : Bx w' g7 24 (genC x.pend r.pend)) (hF : Bx w' g5 68 GB) => (show Below W.heap.size W w' ∧ Bx w' g7 24 (genC x.pend r.pend) ∧ Bx w' g5 68 GB from ⟨hW, hG, hF⟩))
        have HG_0 := Lib.hid (Bx.drew H7.out)
        have HF_0 := Lib.hid (Bx.drew H5.out)
        refine wp_region_noPanic ?_
        refine wp_region_held_drew (S := fun w' => Below W.heap.size W w' ∧ Bx w' g7 24 (genC x.pend r.pend) ∧ Bx w' g5 68 GB) (by kernel_rfl) (KEEP.out _ BB0.out HG_0.out HF_0.out) (fun hHeld => ?_)
        obtain ⟨wz0, hwz⟩ : ∃ x, x = V7.drew := ⟨_, rfl⟩
        rw [← hwz] at BB0 hHeld HG_0 HF_0 ⊢
        clear hwz
        refine wpAnyH_take (i := 0) (oi := ?_) (v := ?_) ?_ (by kernel_rfl) (by decide +kernel) (by decide +kernel) (fun _ _ _ h => h) ?_ (by assumption) ?_
        rotate_left 2
        focus (simp only [List.getElem?_toArray, List.getElem?_cons_zero] <;> rfl)
        · refine Or.inl ⟨by rfl, ?_⟩
          intro w hSw
          (try dsimp only at hSw)
          go_simp <;> with_reducible rfl
        (try simp only [Act.put, List.setIfInBounds_toArray, List.set_cons_zero, List.set_cons_succ])
        refine wpAnyH_take (i := 2) (oi := ?_) (v := ?_) ?_ (by kernel_rfl) (by decide +kernel) (by decide +kernel) (fun _ _ _ h => h) ?_ (by assumption) ?_
        rotate_left 2
        focus (simp only [List.getElem?_toArray, List.getElem?_cons_succ, List.getElem?_cons_zero] <;> rfl)
        · refine Or.inl ⟨by rfl, ?_⟩
          intro w hSw
          (try dsimp only at hSw)
          go_simp <;> with_reducible rfl
        (try simp only [Act.put, List.setIfInBounds_toArray, List.set_cons_zero, List.set_cons_succ])
        refine wpAnyH_take (i := 1) (oi := ?_) (v := ?_) ?_ (by kernel_rfl) (by decide +kernel) (by decide +kernel) (fun _ _ _ h => h) ?_ (by assumption) ?_
        rotate_left 2
        focus (simp only [List.getElem?_toArray, List.getElem?_cons_succ, List.getElem?_cons_zero] <;> rfl)
        · refine Or.inl ⟨by rfl, ?_⟩
          intro w hSw
          have hcell := (hSw.2.1).cell (genC_cn _ _)
          clear hSw
          go_simp <;> with_reducible rfl
        (try simp only [Act.put, List.setIfInBounds_toArray, List.set_cons_zero, List.set_cons_succ])
        refine wpAnyH_take (i := 3) (oi := ?_) (v := ?_) ?_ (by kernel_rfl) (by decide +kernel) (by decide +kernel) (fun _ _ _ h => h) ?_ (by assumption) ?_
        rotate_left 2
        focus (simp only [List.getElem?_toArray, List.getElem?_cons_succ, List.getElem?_cons_zero] <;> rfl)
        · refine Or.inl ⟨by rfl, ?_⟩
          intro w hSw
          (try dsimp only at hSw)
          go_simp <;> with_reducible rfl
        (try simp only [Act.put, List.setIfInBounds_toArray, List.set_cons_zero, List.set_cons_succ])
        refine wpAnyH_take (i := 4) (oi := ?_) (v := ?_) ?_ (by kernel_rfl) (by decide +kernel) (by decide +kernel) (fun _ _ _ h => h) ?_ (by assumption) ?_
        rotate_left 2
        focus (simp only [List.getElem?_toArray, List.getElem?_cons_succ, List.getElem?_cons_zero] <;> rfl)
        · refine Or.inl ⟨by rfl, ?_⟩
          intro w hSw
          (try dsimp only at hSw)
          go_simp <;> with_reducible rfl
        (try simp only [Act.put, List.setIfInBounds_toArray, List.set_cons_zero, List.set_cons_succ])
        refine wpAnyH_take (i := 5) (oi := ?_) (v := ?_) ?_ (by kernel_rfl) (by decide +kernel) (by decide +kernel) (fun _ _ _ h => h) ?_ (by assumption) ?_
        rotate_left 2
        focus (simp only [List.getElem?_toArray, List.getElem?_cons_succ, List.getElem?_cons_zero] <;> rfl)
        · refine Or.inl ⟨by rfl, ?_⟩
          intro w hSw
          have hcell := (hSw.2.2).cell (by rw [HGB.out]; exact (gensC_get y s).2.2.2.2.1)
          clear hSw
          go_simp <;> with_reducible rfl
        (try simp only [Act.put, List.setIfInBounds_toArray, List.set_cons_zero, List.set_cons_succ])
        refine wpAnyH_take (i := 6) (oi := ?_) (v := ?_) ?_ (by kernel_rfl) (by decide +kernel) (by decide +kernel) (fun _ _ _ h => h) ?_ (by assumption) ?_
        rotate_left 2
        focus (simp only [List.getElem?_toArray, List.getElem?_cons_succ, List.getElem?_cons_zero] <;> rfl)
        · refine Or.inl ⟨by rfl, ?_⟩
          intro w hSw
          (try dsimp only at hSw)
          go_simp <;> with_reducible rfl
        (try simp only [Act.put, List.setIfInBounds_toArray, List.set_cons_zero, List.set_cons_succ])
        refine wpAnyH_take (i := 7) (oi := ?_) (v := ?_) ?_ (by kernel_rfl) (by decide +kernel) (by decide +kernel) (fun _ _ _ h => h) ?_ (by assumption) ?_
        rotate_left 2
        focus (simp only [List.getElem?_toArray, List.getElem?_cons_succ, List.getElem?_cons_zero] <;> rfl)
        · refine Or.inl ⟨by rfl, ?_⟩
          intro w hSw
          (try dsimp only at hSw)
          go_simp <;> with_reducible rfl
        (try simp only [Act.put, List.setIfInBounds_toArray, List.set_cons_zero, List.set_cons_succ])
        refine wpAnyH_take (i := 8) (oi := ?_) (v := undef) ?_ (by kernel_rfl) (by decide +kernel) (by decide +kernel) (fun _ _ _ h => h) ?_ (by assumption) ?_
        rotate_left 1
        focus (simp only [List.getElem?_toArray, List.getElem?_cons_succ, List.getElem?_cons_zero] <;> rfl)
        · exact Or.inr ⟨by rfl, rfl⟩
        (try simp only [Act.put, List.setIfInBounds_toArray, List.set_cons_zero, List.set_cons_succ])
        refine wpAnyH_take (i := 10) (oi := ?_) (v := undef) ?_ (by kernel_rfl) (by decide +kernel) (by decide +kernel) (fun _ _ _ h => h) ?_ (by assumption) ?_
        rotate_left 1
        focus (simp only [List.getElem?_toArray, List.getElem?_cons_succ, List.getElem?_cons_zero] <;> rfl)
        · exact Or.inr ⟨by rfl, rfl⟩
        (try simp only [Act.put, List.setIfInBounds_toArray, List.set_cons_zero, List.set_cons_succ])
        refine wpAnyH_take (i := 9) (oi := ?_) (v := undef) ?_ (by kernel_rfl) (by decide +kernel) (by decide +kernel) (fun _ _ _ h => h) ?_ (by assumption) ?_
        rotate_left 1
        focus (simp only [List.getElem?_toArray, List.getElem?_cons_succ, List.getElem?_cons_zero] <;> rfl)
        · exact Or.inr ⟨by rfl, rfl⟩
        (try simp only [Act.put, List.setIfInBounds_toArray, List.set_cons_zero, List.set_cons_succ])
        refine wpAnyH_take (i := 11) (oi := ?_) (v := undef) ?_ (by kernel_rfl) (by decide +kernel) (by decide +kernel) (fun _ _ _ h => h) ?_ (by assumption) ?_
        rotate_left 1
        focus (simp only [List.getElem?_toArray, List.getElem?_cons_succ, List.getElem?_cons_zero] <;> rfl)
        · exact Or.inr ⟨by rfl, rfl⟩
        (try simp only [Act.put, List.setIfInBounds_toArray, List.set_cons_zero, List.set_cons_succ])
        refine wpAnyH_take (i := 12) (oi := ?_) (v := undef) ?_ (by kernel_rfl) (by decide +kernel) (by decide +kernel) (fun _ _ _ h => h) ?_ (by assumption) ?_
        rotate_left 1
        focus (simp only [List.getElem?_toArray, List.getElem?_cons_succ, List.getElem?_cons_zero] <;> rfl)
        · exact Or.inr ⟨by rfl, rfl⟩
        (try simp only [Act.put, List.setIfInBounds_toArray, List.set_cons_zero, List.set_cons_succ])
        refine wpAnyH_take (i := 13) (oi := ?_) (v := undef) ?_ (by kernel_rfl) (by decide +kernel) (by decide +kernel) (fun _ _ _ h => h) ?_ (by assumption) ?_
        rotate_left 1
        focus (simp only [List.getElem?_toArray, List.getElem?_cons_succ, List.getElem?_cons_zero] <;> rfl)
        · exact Or.inr ⟨by rfl, rfl⟩
        (try simp only [Act.put, List.setIfInBounds_toArray, List.set_cons_zero, List.set_cons_succ])
        refine wpAnyH_take (i := 14) (oi := ?_) (v := undef) ?_ (by kernel_rfl) (by decide +kernel) (by decide +kernel) (fun _ _ _ h => h) ?_ (by assumption) ?_
        rotate_left 1
        focus (simp only [List.getElem?_toArray, List.getElem?_cons_succ, List.getElem?_cons_zero] <;> rfl)
        · exact Or.inr ⟨by rfl, rfl⟩
        (try simp only [Act.put, List.setIfInBounds_toArray, List.set_cons_zero, List.set_cons_succ])
        refine wpAnyH_take (i := 15) (oi := ?_) (v := undef) ?_ (by kernel_rfl) (by decide +kernel) (by decide +kernel) (fun _ _ _ h => h) ?_ (by assumption) ?_
        rotate_left 1
        focus (simp only [List.getElem?_toArray, List.getElem?_cons_succ, List.getElem?_cons_zero] <;> rfl)
        · exact Or.inr ⟨by rfl, rfl⟩
        (try simp only [Act.put, List.setIfInBounds_toArray, List.set_cons_zero, List.set_cons_succ])
        refine wpAnyH_take (i := 16) (oi := ?_) (v := ?_) ?_ (by kernel_rfl) (by decide +kernel) (by decide +kernel) (fun _ _ _ h => h) ?_ (by assumption) ?_
        rotate_left 2
        focus (simp only [List.getElem?_toArray, List.getElem?_cons_succ, List.getElem?_cons_zero] <;> rfl)
        · refine Or.inl ⟨by rfl, ?_⟩
          intro w hSw
          (try dsimp only at hSw)
          go_simp <;> with_reducible rfl
        (try simp only [Act.put, List.setIfInBounds_toArray, List.set_cons_zero, List.set_cons_succ])
        refine wpAnyH_done (by decide +kernel) ?_ _
        refine NoPanic.normal ?_
        clear KEEP
        obtain rfl : D = false := HF.out (fun hd => HNE.out (HD.out.1 hd).2.2.1)
        go_wp2_with fail
        go_ret
        exact ⟨rfl, BB0.out⟩
    · have a0 := HG.out.cell (show CA[6]? = some (.int .i64 r.left) from by rw [HA.out.eq]; rfl)
      have a1 := HG.out.cell (show CA[7]? = some (.int .i64 r.top) from by rw [HA.out.eq]; rfl)
      have c0 := HJ.out.cell (show CB[6]? = some (.int .i64 s.left) from by rw [HBB.out.eq]; rfl)
      have c1 := HJ.out.cell (show CB[7]? = some (.int .i64 s.top) from by rw [HBB.out.eq]; rfl)
      by_cases h1 : r.left = s.left
      · have b1 : (r.left == s.left) = true := by rw [h1]; exact beq_self_eq_true _
        by_cases h2 : r.top = s.top
        · have b2 : (r.top == s.top) = true := by rw [h2]; exact beq_self_eq_true _
          obtain rfl : D = true := HD.out.2 ⟨HE.out.1 (by decide), HE.out.2.1 (by decide), HE.out.2.2 (by decide), h1, h2⟩
          clear h1 h2 HD HF
          go_wp2_with fail
          go_ret
          exact ⟨rfl, HB.out⟩
        · have b2 : (r.top == s.top) = false := beq_eq_false_iff_ne.2 h2
          obtain rfl : D = false := HF.out (fun hd => h2 (HD.out.1 hd).2.2.2.2)
          clear h1 h2 HD HF
          go_wp2_with fail
          go_ret
          exact ⟨rfl, HB.out⟩
      · have b1 : (r.left == s.left) = false := beq_eq_false_iff_ne.2 h1
        obtain rfl : D = false := HF.out (fun hd => h1 (HD.out.1 hd).2.2.2.1)
        clear h1 HD HF
        go_wp2_with fail
        go_ret
        exact ⟨rfl, HB.out⟩
set_option maxRecDepth 100000 in
theorem tyRingW : Part (ringC wg0 rg0) 0 (ringC wg0 rg0) := fun j v h => by rw [Nat.zero_add]; exact h
set_option maxRecDepth 100000 in
theorem part_all (C : Array Value) : Part C 0 C := fun j v h => by rw [Nat.zero_add]; exact h
set_option maxRecDepth 100000 in
theorem rSameI_any {C : Array Value} {x : Wg} {r : Rg} (h : IsR C x r) (W : World) (hr : RingR W x r) : Calls Try.prog 15 #[.agg C, .agg #[.int .i64 0, .slice none 0 0, .int .i64 0, .slice none 0 0, .int .i64 0, .slice none 0 0, .int .i64 0, .int .i64 0]] W fun e W' => e = .returned (.bool (decide (r = rg0))) ∧ Below W.heap.size W W' := by
  rw [h.eq]
  exact rSameL_any x wg0 r rg0 W hr (ringR0 W)
set_option maxRecDepth 100000 in
set_option maxHeartbeats 4000000 in
theorem emptyW_any {C : Array Value} {x : Wg} {r : Rg} (h : IsR C x r) (W : World) (hr : RingR W x r) : Calls Try.prog 37 #[.agg C] W fun e W' => e = .returned (.bool (decide (r = rg0))) ∧ Below W.heap.size W W' := by
  obtain ⟨V, hV, hb, hg⟩ := bx1 W 66 C
  have HC := Lib.hid h
  have HB := Lib.hid hb
  have HV := Lib.hid hV
  have HG := Lib.hid hg
  have HR := Lib.hid (hr.go hb)
  have hsz := h.size
  clear hV hb hg hr h
  go_enter Try.func37, Try.ntmps37
  go_upto_region 1 with (fail)
  rw [← HV.out]
  clear HV
  go_wp2_with (refine loadPx (.tmp 3) W.heap.size 0 C C tyRing HC.out.size (part_all C) HG.out rfl rfl rfl ?_)
  refine (rSameI_any HC.out _ HR.out).mono ?_
  rintro e w1 ⟨rfl, hb⟩
  have HB1 := Lib.hid (belG HB.out hb HB.out.size)
  clear hb HB
  go_wp2_with fail
  go_ret
  exact ⟨rfl, HB1.out⟩
end Go.Proofs.Ytgnccfcdonoegaa
