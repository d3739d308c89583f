
/- Package ring: New, Withdraw, Turn, Tick, Offer. -/
import Derived.Test.YtgnccfcdonoegaaJ09
namespace Go.Proofs.Ytgnccfcdonoegaa
open Go.RowKit

set_option maxRecDepth 100000 in
/-- behind begun: a ring's cells as a letter -/
theorem begunI_any {C : Array Value} {x : Wg} {r : Rg} (h : IsR C x r) (W : World) (hf : FewK r) (hr : RingR W x r) : Calls Try.prog 44 #[.agg C] W fun e W' => (∃ D z, IsR D z r ∧ e = .returned (.agg D) ∧ RingR W' z r) ∧ Below W.heap.size W W' := by
  rw [h.eq]
  refine (begun_any x r W hf hr).mono ?_
  rintro e w ⟨⟨z, h1, h2⟩, h3⟩
  exact ⟨⟨ringC z r, z, ⟨rfl, rfl, ringC_one z r, buildW _ rfl⟩, h1, h2⟩, h3⟩
set_option maxRecDepth 100000 in
theorem IsR.at1 {C : Array Value} {x : Wg} {r : Rg} (h : IsR C x r) : C[1]? = some (.slice x.cur.1 r.cur.key.length x.cur.2) := by rw [h.eq]; rfl
set_option maxRecDepth 100000 in
theorem IsR.at3 {C : Array Value} {x : Wg} {r : Rg} (h : IsR C x r) : C[3]? = some (.slice x.old.1 r.old.key.length x.old.2) := by rw [h.eq]; rfl
set_option maxRecDepth 100000 in
theorem IsR.at5 {C : Array Value} {x : Wg} {r : Rg} (h : IsR C x r) : C[5]? = some (.slice x.pend.1 r.pend.key.length x.pend.2) := by rw [h.eq]; rfl
set_option maxRecDepth 100000 in
theorem IsR.no8 {C : Array Value} {x : Wg} {r : Rg} (h : IsR C x r) : No8 C := by rw [h.eq]; exact no8_ring x r
set_option maxRecDepth 100000 in
theorem KeyR.put1 {w : World} {g : Nat} {T : TypeId} {C : Array Value} {x : Wk} {l : List UInt8} (k : KeyR w x l) (hg : Bx w g T C) (hn : No8 C) (o : Nat) (v : Value) : KeyR (w.setCell ⟨g, o, none⟩ v) x l := k.putX hg hn o [v]
set_option maxRecDepth 100000 in
theorem RingR.put1 {w : World} {g : Nat} {T : TypeId} {C : Array Value} {x : Wg} {r : Rg} (k : RingR w x r) (hg : Bx w g T C) (hn : No8 C) (o : Nat) (v : Value) : RingR (w.setCell ⟨g, o, none⟩ v) x r := k.putX hg hn o [v]
set_option maxRecDepth 100000 in
theorem no8_set {C : Array Value} (h : No8 C) (j : Nat) {v : Value} (hv : ∀ n, v ≠ .int .u8 n) : No8 (C.setIfInBounds j v) := by
  intro u hu n
  rw [Array.mem_toList_iff] at hu
  rcases Array.mem_or_eq_of_mem_setIfInBounds hu with h1 | h1
  · exact h u (Array.mem_toList_iff.2 h1) n
  · rw [h1]; exact hv n
set_option maxRecDepth 100000 in
set_option maxHeartbeats 4000000 in
theorem rWithdrawL_any (x : Wg) (r : Rg) (W : World) (hf : FewK r) (hr : RingR W x r) : Calls Try.prog 25 #[.agg (ringC x r)] W fun e W' => AnsR1 W' e (withdrawR r) ∧ Below W.heap.size W W' := by
  have HFW := Lib.hid hf
  clear hf
  obtain ⟨C, hC⟩ := isR x r
  rw [← hC.eq]
  obtain ⟨V, hV, hb, hg, hj, hs⟩ := bx2 W 26 26 C (ringC wg0 rg0)
  have HC := Lib.hid hC
  have HB := Lib.hid hb
  have HV := Lib.hid (show V = (W.alloc (.cells C 26)).alloc (.cells #[.int .i64 0, .slice none 0 0, .int .i64 0, .slice none 0 0, .int .i64 0, .slice none 0 0, .int .i64 0, .int .i64 0] 26) from hV)
  have G := Lib.hid hg
  have J := Lib.hid hj
  have RR := Lib.hid (hr.go hb)
  clear hV hb hg hj hr hC hs
  go_enter Try.func25, Try.ntmps25
  go_upto_region 1 with (fail)
  rw [← HV.out]
  clear HV
  go_wp2_with (refine loadX (.tmp 1) W.heap.size C tyRing HC.out.size G.out rfl rfl rfl ?_)
  refine (begunI_any HC.out _ HFW.out RR.out).mono ?_
  rintro e w1 ⟨⟨Z, z, hZ, rfl, hk⟩, hb⟩
  have nHB := Lib.hid (belG HB.out hb HB.out.size)
  have nJ := Lib.hid (Bx.go J.out hb)
  clear hb
  clear HB J
  have HB := nHB
  have J := nJ
  clear nHB nJ
  have HZ := Lib.hid hZ
  have RZ := Lib.hid hk
  have hsz := hZ.size
  clear hZ hk G RR HC
  obtain ⟨V3, g3, hV, hg, hb1, hb2, hx, hl⟩ := boxed W w1 66 Z HB.out
  have nHB := Lib.hid hb1
  have nJ := Lib.hid (Bx.go J.out hb2)
  have nRZ := Lib.hid (RZ.out.go hb2)
  have K := Lib.hid hx
  have LEK := Lib.hid hl
  have HV3 := Lib.hid hV
  have HG3 := Lib.hid hg
  have NJK := Lib.hid (show W.heap.size + 1 ≠ g3 from by have h1 := Bx.lt J.out; rw [hg]; omega)
  clear hV hg hb1 hb2 hx hl
  go_upto_region 2 with (refine storeX (.tmp 3) (.tmp 5) _ Z _ tyWork HZ.out.size HZ.out.one (heap_alloc_new _ _) rfl rfl rfl rfl rfl ?_; rw [setRowG_fold])
  clear HB J RZ
  have HB := nHB
  have J := nJ
  have RZ := nRZ
  clear nHB nJ nRZ
  rw [← HV3.out]
  (try rw [← HG3.out])
  clear HV3 HG3
  have x4 := K.out.cell HZ.out.at4
  have x5 := K.out.cell HZ.out.at5
  have f4 := K.out.thaw 4
  have f5 := K.out.thaw 5
  go_upto_region 3 with (fail)
  obtain ⟨Y, hY⟩ : ∃ U, U = ((V3.setCell ⟨g3, 4, none⟩ (.int .i64 0)).setCell ⟨g3, 5, none⟩ (.slice none 0 0)) := ⟨_, rfl⟩
  have hK := K.out
  rw [HZ.out.eq] at hK
  have hK2 : Bx Y g3 66 (ringC ⟨z.cur, z.old, wk0⟩ (withdrawR r)) := by rw [hY]; exact (Bx.set (j := 5) (v := (.slice none 0 0)) (Bx.set (j := 4) (v := (.int .i64 0)) hK rfl) rfl)
  have nHB := Lib.hid (show Below W.heap.size W Y from by rw [hY]; exact (Below.setCell (p := ⟨g3, 5, none⟩) (Below.setCell (p := ⟨g3, 4, none⟩) HB.out LEK.out (.int .i64 0)) LEK.out (.slice none 0 0)))
  have nJ := Lib.hid (show Bx Y (W.heap.size + 1) 26 (ringC wg0 rg0) from by rw [hY]; exact (Bx.setOther (Bx.setOther J.out NJK.out 4 (.int .i64 0)) NJK.out 5 (.slice none 0 0)))
  have nRZ := Lib.hid (show RingR Y z r from by rw [hY]; exact ((RZ.out.putX hK (by first | exact no8_ring _ _ | (repeat (first | exact no8_ring _ _ | refine no8_set ?_ _ (fun _ h => by cases h)))) 4 [(.int .i64 0)]).putX (Bx.set (j := 4) (v := (.int .i64 0)) hK rfl) (by first | exact no8_ring _ _ | (repeat (first | exact no8_ring _ _ | refine no8_set ?_ _ (fun _ h => by cases h)))) 5 [(.slice none 0 0)]))
  rw [← hY]
  clear hY hK
  clear HB J K HZ hsz RZ
  have HB := nHB
  have J := nJ
  have RZ := nRZ
  clear nHB nJ nRZ
  obtain ⟨Z, hZ⟩ := isR ⟨z.cur, z.old, wk0⟩ (withdrawR r)
  rw [← hZ.eq] at hK2
  have K := Lib.hid hK2
  have HZ := Lib.hid hZ
  have hsz := hZ.size
  clear hK2 hZ
  clear x4 x5 f4 f5
  go_wp2_with (first | (refine loadPx (.tmp 9) g3 0 Z Z tyRing HZ.out.size (part_all Z) K.out rfl rfl rfl ?_) | (refine storeX (.tmp 2) (.tmp 10) (W.heap.size + 1) Z _ tyRing HZ.out.size HZ.out.one J.out rfl rfl rfl rfl rfl ?_))
  (try dsimp only)
  refine bodyPost_ret (retX1 rfl _ _ (W.heap.size + 1) Z tyRing HZ.out.size rfl (Bx.setRow J.out _)) rfl ?_
  have hb := Below.setRowG HB.out (Nat.le_succ _) Z
  have hz := RingR.setRow (C' := Z) (show RingR _ ⟨z.cur, z.old, wk0⟩ (withdrawR r) from ⟨RZ.out.1, RZ.out.2.1, keyR0 _⟩) J.out (no8_ring _ _)
  rw [HZ.out.eq] at hb hz ⊢
  exact ⟨⟨_, rfl, hz⟩, hb⟩
set_option maxRecDepth 100000 in
set_option maxHeartbeats 4000000 in
theorem rTurnL_any (x : Wg) (r : Rg) (W : World) (hf : FewK r) (hr : RingR W x r) : Calls Try.prog 23 #[.agg (ringC x r)] W fun e W' => AnsRg W' e (turnR r).1 (turnR r).2 ∧ Below W.heap.size W W' := by
  have HFW := Lib.hid hf
  clear hf
  obtain ⟨C, hC⟩ := isR x r
  rw [← hC.eq]
  obtain ⟨V, hV, hb, hg, hj, hs⟩ := bx2 W 26 26 C (ringC wg0 rg0)
  have HC := Lib.hid hC
  have HB := Lib.hid hb
  have HV := Lib.hid (show V = (W.alloc (.cells C 26)).alloc (.cells #[.int .i64 0, .slice none 0 0, .int .i64 0, .slice none 0 0, .int .i64 0, .slice none 0 0, .int .i64 0, .int .i64 0] 26) from hV)
  have G := Lib.hid hg
  have J := Lib.hid hj
  have RR := Lib.hid (hr.go hb)
  clear hV hb hg hj hr hC hs
  go_enter Try.func23, Try.ntmps23
  go_upto_region 1 with (fail)
  rw [← HV.out]
  clear HV
  go_wp2_with (refine loadX (.tmp 1) W.heap.size C tyRing HC.out.size G.out rfl rfl rfl ?_)
  refine (begunI_any HC.out _ HFW.out RR.out).mono ?_
  rintro e w1 ⟨⟨Z, z, hZ, rfl, hk⟩, hb⟩
  have nHB := Lib.hid (belG HB.out hb HB.out.size)
  have nJ := Lib.hid (Bx.go J.out hb)
  clear hb
  clear HB J
  have HB := nHB
  have J := nJ
  clear nHB nJ
  have HZ := Lib.hid hZ
  have RZ := Lib.hid hk
  have hsz := hZ.size
  clear hZ hk G RR HC
  obtain ⟨V3, g3, hV, hg, hb1, hb2, hx, hl⟩ := boxed W w1 66 Z HB.out
  have nHB := Lib.hid hb1
  have nJ := Lib.hid (Bx.go J.out hb2)
  have nRZ := Lib.hid (RZ.out.go hb2)
  have K := Lib.hid hx
  have LEK := Lib.hid hl
  have HV3 := Lib.hid hV
  have HG3 := Lib.hid hg
  have NJK := Lib.hid (show W.heap.size + 1 ≠ g3 from by have h1 := Bx.lt J.out; rw [hg]; omega)
  clear hV hg hb1 hb2 hx hl
  go_upto_region 2 with (refine storeX (.tmp 4) (.tmp 6) _ Z _ tyWork HZ.out.size HZ.out.one (heap_alloc_new _ _) rfl rfl rfl rfl rfl ?_; rw [setRowG_fold])
  clear HB J RZ
  have HB := nHB
  have J := nJ
  have RZ := nRZ
  clear nHB nJ nRZ
  rw [← HV3.out]
  (try rw [← HG3.out])
  clear HV3 HG3
  have x4 := K.out.cell HZ.out.at4
  by_cases h0 : r.pend.no = 0
  · have HT := Lib.hid (show turnR r = (r, 9) from by unfold turnR; rw [if_pos h0])
    have b0 : (r.pend.no == 0) = true := beq_iff_eq.2 h0
    clear h0
    go_wp2_with (first | (refine loadPx (.tmp 12) g3 0 Z Z tyRing HZ.out.size (part_all Z) K.out rfl rfl rfl ?_) | (refine storeX (.tmp 2) (.tmp 13) (W.heap.size + 1) Z _ tyRing HZ.out.size HZ.out.one J.out rfl rfl rfl rfl rfl ?_))
    (try dsimp only)
    refine bodyPost_ret (retX2 rfl _ _ (W.heap.size + 1) Z _ tyRing HZ.out.size rfl rfl (Bx.setRow J.out _)) rfl ?_
    have hb := Below.setRowG HB.out (Nat.le_succ _) Z
    have hz := RingR.setRow (C' := Z) RZ.out J.out (no8_ring _ _)
    rw [HZ.out.eq] at hb hz ⊢
    exact ⟨by rw [HT.out]; exact ⟨_, rfl, hz⟩, hb⟩
  · have HT := Lib.hid (show turnR r = ((⟨r.pend, r.cur, gn0, 16, r.top⟩ : Rg), 0) from by unfold turnR; rw [if_neg h0])
    have b0 : (r.pend.no == 0) = false := beq_eq_false_iff_ne.2 h0
    clear h0 x4
    have x0 := K.out.cell HZ.out.at0
    have f0 := K.out.thaw 0
    have x1 := K.out.cell HZ.out.at1
    have f1 := K.out.thaw 1
    have x2 := K.out.cell HZ.out.at2
    have f2 := K.out.thaw 2
    have x3 := K.out.cell HZ.out.at3
    have f3 := K.out.thaw 3
    have x4 := K.out.cell HZ.out.at4
    have f4 := K.out.thaw 4
    have x5 := K.out.cell HZ.out.at5
    have f5 := K.out.thaw 5
    go_upto_region 5 with (fail)
    obtain ⟨Y, hY⟩ : ∃ U, U = ((((((V3.setCell ⟨g3, 2, none⟩ (.int .i64 r.cur.no)).setCell ⟨g3, 3, none⟩ (.slice z.cur.1 r.cur.key.length z.cur.2)).setCell ⟨g3, 0, none⟩ (.int .i64 r.pend.no)).setCell ⟨g3, 1, none⟩ (.slice z.pend.1 r.pend.key.length z.pend.2)).setCell ⟨g3, 4, none⟩ (.int .i64 0)).setCell ⟨g3, 5, none⟩ (.slice none 0 0)) := ⟨_, rfl⟩
    have hK := K.out
    rw [HZ.out.eq] at hK
    have hK2 : Bx Y g3 66 (ringC ⟨z.pend, z.cur, wk0⟩ (⟨r.pend, r.cur, gn0, r.left, r.top⟩ : Rg)) := by rw [hY]; exact (Bx.set (j := 5) (v := (.slice none 0 0)) (Bx.set (j := 4) (v := (.int .i64 0)) (Bx.set (j := 1) (v := (.slice z.pend.1 r.pend.key.length z.pend.2)) (Bx.set (j := 0) (v := (.int .i64 r.pend.no)) (Bx.set (j := 3) (v := (.slice z.cur.1 r.cur.key.length z.cur.2)) (Bx.set (j := 2) (v := (.int .i64 r.cur.no)) hK rfl) rfl) rfl) rfl) rfl) rfl)
    have nHB := Lib.hid (show Below W.heap.size W Y from by rw [hY]; exact (Below.setCell (p := ⟨g3, 5, none⟩) (Below.setCell (p := ⟨g3, 4, none⟩) (Below.setCell (p := ⟨g3, 1, none⟩) (Below.setCell (p := ⟨g3, 0, none⟩) (Below.setCell (p := ⟨g3, 3, none⟩) (Below.setCell (p := ⟨g3, 2, none⟩) HB.out LEK.out (.int .i64 r.cur.no)) LEK.out (.slice z.cur.1 r.cur.key.length z.cur.2)) LEK.out (.int .i64 r.pend.no)) LEK.out (.slice z.pend.1 r.pend.key.length z.pend.2)) LEK.out (.int .i64 0)) LEK.out (.slice none 0 0)))
    have nJ := Lib.hid (show Bx Y (W.heap.size + 1) 26 (ringC wg0 rg0) from by rw [hY]; exact (Bx.setOther (Bx.setOther (Bx.setOther (Bx.setOther (Bx.setOther (Bx.setOther J.out NJK.out 2 (.int .i64 r.cur.no)) NJK.out 3 (.slice z.cur.1 r.cur.key.length z.cur.2)) NJK.out 0 (.int .i64 r.pend.no)) NJK.out 1 (.slice z.pend.1 r.pend.key.length z.pend.2)) NJK.out 4 (.int .i64 0)) NJK.out 5 (.slice none 0 0)))
    have nRZ := Lib.hid (show RingR Y z r from by rw [hY]; exact ((((((RZ.out.putX hK (by first | exact no8_ring _ _ | (repeat (first | exact no8_ring _ _ | refine no8_set ?_ _ (fun _ h => by cases h)))) 2 [(.int .i64 r.cur.no)]).putX (Bx.set (j := 2) (v := (.int .i64 r.cur.no)) hK rfl) (by first | exact no8_ring _ _ | (repeat (first | exact no8_ring _ _ | refine no8_set ?_ _ (fun _ h => by cases h)))) 3 [(.slice z.cur.1 r.cur.key.length z.cur.2)]).putX (Bx.set (j := 3) (v := (.slice z.cur.1 r.cur.key.length z.cur.2)) (Bx.set (j := 2) (v := (.int .i64 r.cur.no)) hK rfl) rfl) (by first | exact no8_ring _ _ | (repeat (first | exact no8_ring _ _ | refine no8_set ?_ _ (fun _ h => by cases h)))) 0 [(.int .i64 r.pend.no)]).putX (Bx.set (j := 0) (v := (.int .i64 r.pend.no)) (Bx.set (j := 3) (v := (.slice z.cur.1 r.cur.key.length z.cur.2)) (Bx.set (j := 2) (v := (.int .i64 r.cur.no)) hK rfl) rfl) rfl) (by first | exact no8_ring _ _ | (repeat (first | exact no8_ring _ _ | refine no8_set ?_ _ (fun _ h => by cases h)))) 1 [(.slice z.pend.1 r.pend.key.length z.pend.2)]).putX (Bx.set (j := 1) (v := (.slice z.pend.1 r.pend.key.length z.pend.2)) (Bx.set (j := 0) (v := (.int .i64 r.pend.no)) (Bx.set (j := 3) (v := (.slice z.cur.1 r.cur.key.length z.cur.2)) (Bx.set (j := 2) (v := (.int .i64 r.cur.no)) hK rfl) rfl) rfl) rfl) (by first | exact no8_ring _ _ | (repeat (first | exact no8_ring _ _ | refine no8_set ?_ _ (fun _ h => by cases h)))) 4 [(.int .i64 0)]).putX (Bx.set (j := 4) (v := (.int .i64 0)) (Bx.set (j := 1) (v := (.slice z.pend.1 r.pend.key.length z.pend.2)) (Bx.set (j := 0) (v := (.int .i64 r.pend.no)) (Bx.set (j := 3) (v := (.slice z.cur.1 r.cur.key.length z.cur.2)) (Bx.set (j := 2) (v := (.int .i64 r.cur.no)) hK rfl) rfl) rfl) rfl) rfl) (by first | exact no8_ring _ _ | (repeat (first | exact no8_ring _ _ | refine no8_set ?_ _ (fun _ h => by cases h)))) 5 [(.slice none 0 0)]))
    rw [← hY]
    clear hY hK
    clear HB J K HZ hsz RZ
    have HB := nHB
    have J := nJ
    have RZ := nRZ
    clear nHB nJ nRZ
    obtain ⟨Z, hZ⟩ := isR ⟨z.pend, z.cur, wk0⟩ (⟨r.pend, r.cur, gn0, r.left, r.top⟩ : Rg)
    rw [← hZ.eq] at hK2
    have K := Lib.hid hK2
    have HZ := Lib.hid hZ
    have hsz := hZ.size
    clear hK2 hZ
    clear x0 x1 x2 x3 x4 x5 f0 f1 f2 f3 f4 f5
    have x6 := K.out.cell HZ.out.at6
    have f6 := K.out.thaw 6
    go_upto_region 6 with (fail)
    obtain ⟨Y2, hY⟩ : ∃ U, U = (Y.setCell ⟨g3, 6, none⟩ (.int .i64 16)) := ⟨_, rfl⟩
    have hK := K.out
    rw [HZ.out.eq] at hK
    have hK2 : Bx Y2 g3 66 (ringC ⟨z.pend, z.cur, wk0⟩ (⟨r.pend, r.cur, gn0, 16, r.top⟩ : Rg)) := by rw [hY]; exact (Bx.set (j := 6) (v := (.int .i64 16)) hK rfl)
    have nHB := Lib.hid (show Below W.heap.size W Y2 from by rw [hY]; exact (Below.setCell (p := ⟨g3, 6, none⟩) HB.out LEK.out (.int .i64 16)))
    have nJ := Lib.hid (show Bx Y2 (W.heap.size + 1) 26 (ringC wg0 rg0) from by rw [hY]; exact (Bx.setOther J.out NJK.out 6 (.int .i64 16)))
    have nRZ := Lib.hid (show RingR Y2 z r from by rw [hY]; exact (RZ.out.putX hK (by first | exact no8_ring _ _ | (repeat (first | exact no8_ring _ _ | refine no8_set ?_ _ (fun _ h => by cases h)))) 6 [(.int .i64 16)]))
    rw [← hY]
    clear hY hK
    clear HB J K HZ hsz RZ
    have HB := nHB
    have J := nJ
    have RZ := nRZ
    clear nHB nJ nRZ
    obtain ⟨Z, hZ⟩ := isR ⟨z.pend, z.cur, wk0⟩ (⟨r.pend, r.cur, gn0, 16, r.top⟩ : Rg)
    rw [← hZ.eq] at hK2
    have K := Lib.hid hK2
    have HZ := Lib.hid hZ
    have hsz := hZ.size
    clear hK2 hZ
    clear x6 f6
    go_wp2_with (first | (refine loadPx (.tmp 29) g3 0 Z Z tyRing HZ.out.size (part_all Z) K.out rfl rfl rfl ?_) | (refine storeX (.tmp 2) (.tmp 30) (W.heap.size + 1) Z _ tyRing HZ.out.size HZ.out.one J.out rfl rfl rfl rfl rfl ?_))
    (try dsimp only)
    refine bodyPost_ret (retX2 rfl _ _ (W.heap.size + 1) Z _ tyRing HZ.out.size rfl rfl (Bx.setRow J.out _)) rfl ?_
    have hb := Below.setRowG HB.out (Nat.le_succ _) Z
    have hz := RingR.setRow (C' := Z) (show RingR _ ⟨z.pend, z.cur, wk0⟩ (⟨r.pend, r.cur, gn0, 16, r.top⟩ : Rg) from ⟨RZ.out.2.2, RZ.out.1, keyR0 _⟩) J.out (no8_ring _ _)
    rw [HZ.out.eq] at hb hz ⊢
    exact ⟨by rw [HT.out]; exact ⟨_, rfl, hz⟩, hb⟩
set_option maxRecDepth 100000 in
set_option maxHeartbeats 4000000 in
theorem rTickL_any (x : Wg) (r : Rg) (W : World) (hR : RightR r) (hr : RingR W x r) : Calls Try.prog 27 #[.agg (ringC x r)] W fun e W' => AnsR1 W' e (tickR r) ∧ Below W.heap.size W W' := by
  have HFW := Lib.hid hR.k
  have hl : 0 ≤ r.left ∧ r.left ≤ 16 := by
    rcases hR with h | ⟨-, -, -, -, h, -⟩
    · rw [h]; exact ⟨(by decide : (0 : Int) ≤ 0), (by decide : (0 : Int) ≤ 16)⟩
    · rcases h with h | h
      · omega
      · omega
  obtain ⟨l1, l2⟩ := hl
  clear hR
  obtain ⟨C, hC⟩ := isR x r
  rw [← hC.eq]
  obtain ⟨V, hV, hb, hg, hj, hs⟩ := bx2 W 26 26 C (ringC wg0 rg0)
  have HC := Lib.hid hC
  have HB := Lib.hid hb
  have HV := Lib.hid (show V = (W.alloc (.cells C 26)).alloc (.cells #[.int .i64 0, .slice none 0 0, .int .i64 0, .slice none 0 0, .int .i64 0, .slice none 0 0, .int .i64 0, .int .i64 0] 26) from hV)
  have G := Lib.hid hg
  have J := Lib.hid hj
  have RR := Lib.hid (hr.go hb)
  clear hV hb hg hj hr hC hs
  go_enter Try.func27, Try.ntmps27
  go_upto_region 1 with (fail)
  rw [← HV.out]
  clear HV
  go_wp2_with (refine loadX (.tmp 1) W.heap.size C tyRing HC.out.size G.out rfl rfl rfl ?_)
  refine (begunI_any HC.out _ HFW.out RR.out).mono ?_
  rintro e w1 ⟨⟨Z, z, hZ, rfl, hk⟩, hb⟩
  have nHB := Lib.hid (belG HB.out hb HB.out.size)
  have nJ := Lib.hid (Bx.go J.out hb)
  clear hb
  clear HB J
  have HB := nHB
  have J := nJ
  clear nHB nJ
  have HZ := Lib.hid hZ
  have RZ := Lib.hid hk
  have hsz := hZ.size
  clear hZ hk G RR HC
  obtain ⟨V3, g3, hV, hg, hb1, hb2, hx, hl⟩ := boxed W w1 66 Z HB.out
  have nHB := Lib.hid hb1
  have nJ := Lib.hid (Bx.go J.out hb2)
  have nRZ := Lib.hid (RZ.out.go hb2)
  have K := Lib.hid hx
  have LEK := Lib.hid hl
  have HV3 := Lib.hid hV
  have HG3 := Lib.hid hg
  have NJK := Lib.hid (show W.heap.size + 1 ≠ g3 from by have h1 := Bx.lt J.out; rw [hg]; omega)
  clear hV hg hb1 hb2 hx hl
  go_upto_region 2 with (refine storeX (.tmp 3) (.tmp 5) _ Z _ tyWork HZ.out.size HZ.out.one (heap_alloc_new _ _) rfl rfl rfl rfl rfl ?_; rw [setRowG_fold])
  clear HB J RZ
  have HB := nHB
  have J := nJ
  have RZ := nRZ
  clear nHB nJ nRZ
  rw [← HV3.out]
  (try rw [← HG3.out])
  clear HV3 HG3
  have x6 := K.out.cell HZ.out.at6
  by_cases h0 : r.left = 0
  · have HT := Lib.hid (show tickR r = (⟨r.cur, gn0, r.pend, r.left, r.top⟩ : Rg) from by unfold tickR; rw [if_neg (by omega), h0])
    rw [h0] at x6
    clear h0 l1 l2
    have x2 := K.out.cell HZ.out.at2
    have x3 := K.out.cell HZ.out.at3
    have f2 := K.out.thaw 2
    have f3 := K.out.thaw 3
    go_upto_region 6 with (fail)
    obtain ⟨Y, hY⟩ : ∃ U, U = ((V3.setCell ⟨g3, 2, none⟩ (.int .i64 0)).setCell ⟨g3, 3, none⟩ (.slice none 0 0)) := ⟨_, rfl⟩
    have hK := K.out
    rw [HZ.out.eq] at hK
    have hK2 : Bx Y g3 66 (ringC ⟨z.cur, wk0, z.pend⟩ (⟨r.cur, gn0, r.pend, r.left, r.top⟩ : Rg)) := by rw [hY]; exact (Bx.set (j := 3) (v := (.slice none 0 0)) (Bx.set (j := 2) (v := (.int .i64 0)) hK rfl) rfl)
    have nHB := Lib.hid (show Below W.heap.size W Y from by rw [hY]; exact (Below.setCell (p := ⟨g3, 3, none⟩) (Below.setCell (p := ⟨g3, 2, none⟩) HB.out LEK.out (.int .i64 0)) LEK.out (.slice none 0 0)))
    have nJ := Lib.hid (show Bx Y (W.heap.size + 1) 26 (ringC wg0 rg0) from by rw [hY]; exact (Bx.setOther (Bx.setOther J.out NJK.out 2 (.int .i64 0)) NJK.out 3 (.slice none 0 0)))
    have nRZ := Lib.hid (show RingR Y z r from by rw [hY]; exact ((RZ.out.putX hK (by first | exact no8_ring _ _ | (repeat (first | exact no8_ring _ _ | refine no8_set ?_ _ (fun _ h => by cases h)))) 2 [(.int .i64 0)]).putX (Bx.set (j := 2) (v := (.int .i64 0)) hK rfl) (by first | exact no8_ring _ _ | (repeat (first | exact no8_ring _ _ | refine no8_set ?_ _ (fun _ h => by cases h)))) 3 [(.slice none 0 0)]))
    rw [← hY]
    clear hY hK
    clear HB J K HZ hsz RZ
    have HB := nHB
    have J := nJ
    have RZ := nRZ
    clear nHB nJ nRZ
    obtain ⟨Z, hZ⟩ := isR ⟨z.cur, wk0, z.pend⟩ (⟨r.cur, gn0, r.pend, r.left, r.top⟩ : Rg)
    rw [← hZ.eq] at hK2
    have K := Lib.hid hK2
    have HZ := Lib.hid hZ
    have hsz := hZ.size
    clear hK2 hZ
    clear x2 x3 f2 f3
    clear x6
    go_wp2_with (first | (refine loadPx (.tmp 23) g3 0 Z Z tyRing HZ.out.size (part_all Z) K.out rfl rfl rfl ?_) | (refine storeX (.tmp 2) (.tmp 24) (W.heap.size + 1) Z _ tyRing HZ.out.size HZ.out.one J.out rfl rfl rfl rfl rfl ?_))
    (try dsimp only)
    refine bodyPost_ret (retX1 rfl _ _ (W.heap.size + 1) Z tyRing HZ.out.size rfl (Bx.setRow J.out _)) rfl ?_
    have hb := Below.setRowG HB.out (Nat.le_succ _) Z
    have hz := RingR.setRow (C' := Z) (show RingR _ ⟨z.cur, wk0, z.pend⟩ (⟨r.cur, gn0, r.pend, r.left, r.top⟩ : Rg) from ⟨RZ.out.1, keyR0 _, RZ.out.2.2⟩) J.out (no8_ring _ _)
    rw [HZ.out.eq] at hb hz ⊢
    exact ⟨by rw [HT.out]; exact ⟨_, rfl, hz⟩, hb⟩
  · have f6 := K.out.thaw 6
    have g0 : 0 < r.left := by omega
    have hw : IntKind.i64.wrap (r.left - 1) = r.left - 1 := IntWalk.i64_in _ (by omega)
    have hw2 : wrap64 (r.left - 1) = r.left - 1 := by unfold wrap64; omega
    go_upto_region 4 with (fail)
    obtain ⟨Y, hY⟩ : ∃ U, U = (V3.setCell ⟨g3, 6, none⟩ (.int .i64 (r.left - 1))) := ⟨_, rfl⟩
    have hK := K.out
    rw [HZ.out.eq] at hK
    have hK2 : Bx Y g3 66 (ringC z ({ r with left := r.left - 1 } : Rg)) := by rw [hY]; exact (Bx.set (j := 6) (v := (.int .i64 (r.left - 1))) hK rfl)
    have nHB := Lib.hid (show Below W.heap.size W Y from by rw [hY]; exact (Below.setCell (p := ⟨g3, 6, none⟩) HB.out LEK.out (.int .i64 (r.left - 1))))
    have nJ := Lib.hid (show Bx Y (W.heap.size + 1) 26 (ringC wg0 rg0) from by rw [hY]; exact (Bx.setOther J.out NJK.out 6 (.int .i64 (r.left - 1))))
    have nRZ := Lib.hid (show RingR Y z r from by rw [hY]; exact (RZ.out.putX hK (by first | exact no8_ring _ _ | (repeat (first | exact no8_ring _ _ | refine no8_set ?_ _ (fun _ h => by cases h)))) 6 [(.int .i64 (r.left - 1))]))
    rw [← hY]
    clear hY hK
    clear HB J K HZ hsz RZ
    have HB := nHB
    have J := nJ
    have RZ := nRZ
    clear nHB nJ nRZ
    obtain ⟨Z, hZ⟩ := isR z ({ r with left := r.left - 1 } : Rg)
    rw [← hZ.eq] at hK2
    have K := Lib.hid hK2
    have HZ := Lib.hid hZ
    have hsz := hZ.size
    clear hK2 hZ
    clear x6 f6 hw hw2
    have x6 : Y.cell? ⟨g3, 6, none⟩ = some (.int .i64 (r.left - 1)) := K.out.cell HZ.out.at6
    by_cases h1 : r.left = 1
    · have HL := Lib.hid (show r.left - 1 = 0 from by omega)
      have HT := Lib.hid (show tickR r = (⟨r.cur, gn0, r.pend, r.left - 1, r.top⟩ : Rg) from by unfold tickR; rw [if_neg (by omega), HL.out])
      rw [HL.out] at x6
      clear h0 h1 g0 l1 l2
      have x2 := K.out.cell HZ.out.at2
      have x3 := K.out.cell HZ.out.at3
      have f2 := K.out.thaw 2
      have f3 := K.out.thaw 3
      go_upto_region 6 with (fail)
      obtain ⟨Y2, hY⟩ : ∃ U, U = ((Y.setCell ⟨g3, 2, none⟩ (.int .i64 0)).setCell ⟨g3, 3, none⟩ (.slice none 0 0)) := ⟨_, rfl⟩
      have hK := K.out
      rw [HZ.out.eq] at hK
      have hK2 : Bx Y2 g3 66 (ringC ⟨z.cur, wk0, z.pend⟩ (⟨r.cur, gn0, r.pend, r.left - 1, r.top⟩ : Rg)) := by rw [hY]; exact (Bx.set (j := 3) (v := (.slice none 0 0)) (Bx.set (j := 2) (v := (.int .i64 0)) hK rfl) rfl)
      have nHB := Lib.hid (show Below W.heap.size W Y2 from by rw [hY]; exact (Below.setCell (p := ⟨g3, 3, none⟩) (Below.setCell (p := ⟨g3, 2, none⟩) HB.out LEK.out (.int .i64 0)) LEK.out (.slice none 0 0)))
      have nJ := Lib.hid (show Bx Y2 (W.heap.size + 1) 26 (ringC wg0 rg0) from by rw [hY]; exact (Bx.setOther (Bx.setOther J.out NJK.out 2 (.int .i64 0)) NJK.out 3 (.slice none 0 0)))
      have nRZ := Lib.hid (show RingR Y2 z r from by rw [hY]; exact ((RZ.out.putX hK (by first | exact no8_ring _ _ | (repeat (first | exact no8_ring _ _ | refine no8_set ?_ _ (fun _ h => by cases h)))) 2 [(.int .i64 0)]).putX (Bx.set (j := 2) (v := (.int .i64 0)) hK rfl) (by first | exact no8_ring _ _ | (repeat (first | exact no8_ring _ _ | refine no8_set ?_ _ (fun _ h => by cases h)))) 3 [(.slice none 0 0)]))
      rw [← hY]
      clear hY hK
      clear HB J K HZ hsz RZ
      have HB := nHB
      have J := nJ
      have RZ := nRZ
      clear nHB nJ nRZ
      obtain ⟨Z, hZ⟩ := isR ⟨z.cur, wk0, z.pend⟩ (⟨r.cur, gn0, r.pend, r.left - 1, r.top⟩ : Rg)
      rw [← hZ.eq] at hK2
      have K := Lib.hid hK2
      have HZ := Lib.hid hZ
      have hsz := hZ.size
      clear hK2 hZ
      clear x2 x3 f2 f3
      clear x6
      go_wp2_with (first | (refine loadPx (.tmp 23) g3 0 Z Z tyRing HZ.out.size (part_all Z) K.out rfl rfl rfl ?_) | (refine storeX (.tmp 2) (.tmp 24) (W.heap.size + 1) Z _ tyRing HZ.out.size HZ.out.one J.out rfl rfl rfl rfl rfl ?_))
      (try dsimp only)
      refine bodyPost_ret (retX1 rfl _ _ (W.heap.size + 1) Z tyRing HZ.out.size rfl (Bx.setRow J.out _)) rfl ?_
      have hb := Below.setRowG HB.out (Nat.le_succ _) Z
      have hz := RingR.setRow (C' := Z) (show RingR _ ⟨z.cur, wk0, z.pend⟩ (⟨r.cur, gn0, r.pend, r.left - 1, r.top⟩ : Rg) from ⟨RZ.out.1, keyR0 _, RZ.out.2.2⟩) J.out (no8_ring _ _)
      rw [HZ.out.eq] at hb hz ⊢
      exact ⟨by rw [HT.out]; exact ⟨_, rfl, hz⟩, hb⟩
    · have HT := Lib.hid (show tickR r = ({ r with left := r.left - 1 } : Rg) from by unfold tickR; rw [if_pos (by omega)])
      have b0 : (r.left - 1 == 0) = false := beq_eq_false_iff_ne.2 (by omega)
      clear h0 h1 g0 l1 l2
      go_wp2_with (first | (refine loadPx (.tmp 23) g3 0 Z Z tyRing HZ.out.size (part_all Z) K.out rfl rfl rfl ?_) | (refine storeX (.tmp 2) (.tmp 24) (W.heap.size + 1) Z _ tyRing HZ.out.size HZ.out.one J.out rfl rfl rfl rfl rfl ?_))
      (try dsimp only)
      refine bodyPost_ret (retX1 rfl _ _ (W.heap.size + 1) Z tyRing HZ.out.size rfl (Bx.setRow J.out _)) rfl ?_
      have hb := Below.setRowG HB.out (Nat.le_succ _) Z
      have hz := RingR.setRow (C' := Z) (show RingR _ z ({ r with left := r.left - 1 } : Rg) from RZ.out) J.out (no8_ring _ _)
      rw [HZ.out.eq] at hb hz ⊢
      exact ⟨by rw [HT.out]; exact ⟨_, rfl, hz⟩, hb⟩
set_option maxRecDepth 100000 in
set_option maxHeartbeats 4000000 in
theorem rNewL_any (A : Option Addr) (k : List UInt8) (c : Nat) (W : World) (hk5 : k.length ≤ 50000) (hk : KeyR W (A, c) k) : Calls Try.prog 10 #[.slice A k.length c] W fun e W' => AnsRg W' e (newR k).1 (newR k).2 ∧ Below W.heap.size W W' := by
  obtain ⟨V, hV, hb, hg⟩ := bxZ W
  have HB := Lib.hid hb
  have HV := Lib.hid hV
  have J := Lib.hid hg
  have HL := Lib.hid hk5
  have CI := Lib.hid (fun w => isK_any (A, c) ⟨1, k⟩ w)
  have HK := Lib.hid (hk.go hb)
  have LEN := Lib.hid (Nat.le_refl W.heap.size)
  clear hV hb hg hk hk5
  go_enter Try.func10, Try.ntmps10
  go_upto_region 1 with (fail)
  rw [← HV.out]
  clear HV
  obtain ⟨V3, g3, hV, hg, hb1, hb2, hx, hl⟩ := boxed W V 24 (genC (A, c) ⟨1, k⟩) HB.out
  have nHB := Lib.hid hb1
  have nJ := Lib.hid (Bx.go J.out hb2)
  have nHK := Lib.hid (HK.out.go hb2)
  have K := Lib.hid hx
  have HV3 := Lib.hid (show V3 = V.alloc (.cells #[.int .i64 1, .slice A k.length c] 24) from hV)
  have HG3 := Lib.hid hg
  have NEKN := Lib.hid (show g3 ≠ W.heap.size from by have h1 := Bx.lt J.out; rw [hg]; omega)
  clear hV hg hb1 hb2 hx hl HB J HK
  have HB := nHB
  have J := nJ
  have HK := nHK
  clear nHB nJ nHK
  go_upto_region 2 with (fail)
  rw [← HV3.out]
  (try rw [← HG3.out])
  clear HV3 HG3
  go_wp2_with (refine loadX (.tmp 4) g3 (genC (A, c) ⟨1, k⟩) tyGen rfl K.out rfl rfl rfl ?_)
  refine (CI.out _).mono ?_
  rintro e w1 ⟨rfl, hb⟩
  have nHB := Lib.hid (belG HB.out hb HB.out.size)
  have nRHK := Lib.hid (HK.out.go hb)
  have nJ := Lib.hid (Bx.go J.out hb)
  have nK := Lib.hid (Bx.go K.out hb)
  clear hb HK
  have HK := nRHK
  clear nRHK
  clear HB J K
  have HB := nHB
  have J := nJ
  have K := nK
  clear nHB nJ nK
  by_cases h32 : k.length = 32
  · have hreal : RealG ⟨1, k⟩ := ⟨(by decide : (1 : Int) ≤ 1), (by decide : (1 : Int) ≤ 2147483647), h32⟩
    rw [decide_eq_true hreal]
    have HT := Lib.hid (show newR k = (⟨⟨1, k⟩, gn0, gn0, 0, 1⟩, 0) from by unfold newR; rw [if_pos h32])
    clear h32 hreal CI
    go_upto_region 4 with (fail)
    have BB0 := Lib.hid (HB.out.drew)
    have KEEP := Lib.hid (fun w' (hW : Below W.heap.size W w') (hK : Bx w' g3 24 (genC (A, c) ⟨1, k⟩)) => (show Below W.heap.size W w' ∧ Bx w' g3 24 (genC (A, c) ⟨1, k⟩) from ⟨hW, hK⟩))
    have HK_0 := Lib.hid (Bx.drew K.out)
    have HN_0 := Lib.hid (Bx.drew J.out)
    have KX_0 := Lib.hid (HK.out.go ((Below.refl w1.heap.size w1).drew))
    refine wp_region_noPanic ?_
    refine wp_region_held_drew (S := fun w' => Below W.heap.size W w' ∧ Bx w' g3 24 (genC (A, c) ⟨1, k⟩)) (by kernel_rfl) (KEEP.out _ BB0.out HK_0.out) (fun hHeld => ?_)
    obtain ⟨wz0, hwz⟩ : ∃ x, x = w1.drew := ⟨_, rfl⟩
    rw [← hwz] at BB0 hHeld HK_0 HN_0 KX_0 ⊢
    clear hwz
    refine wpAnyH_take (i := 0) (oi := ?_) (v := .agg (genC (A, c) ⟨1, k⟩)) ?_ (by kernel_rfl) (by decide +kernel) (by decide +kernel) (fun _ _ _ h => h) ?_ (by assumption) ?_
    rotate_left 1
    focus (simp only [List.getElem?_toArray, List.getElem?_cons_zero] <;> rfl)
    · refine yieldsX (T := 24) ?_ (.tmp 4) ?_ ⟨g3, 0, none⟩ ?_ (genC (A, c) ⟨1, k⟩) ?_
      focus rfl
      focus exact rfl
      focus exact rfl
      exact fun w hSw => run_loadX tyGen rfl (hSw.2)
    (try simp only [Act.put, List.setIfInBounds_toArray, List.set_cons_zero, List.set_cons_succ])
    refine wpAnyH_take (i := 2) (oi := ?_) (v := ?_) ?_ (by kernel_rfl) (by decide +kernel) (by decide +kernel) (fun _ _ _ h => h) ?_ (by assumption) ?_
    rotate_left 2
    focus (simp only [List.getElem?_toArray, List.getElem?_cons_succ, List.getElem?_cons_zero] <;> rfl)
    · refine Or.inl ⟨by rfl, ?_⟩
      intro w hSw
      (try dsimp only at hSw)
      go_simp <;> with_reducible rfl
    (try simp only [Act.put, List.setIfInBounds_toArray, List.set_cons_zero, List.set_cons_succ])
    refine wpAnyH_take (i := 3) (oi := ?_) (v := ?_) ?_ (by kernel_rfl) (by decide +kernel) (by decide +kernel) (fun _ _ _ h => h) ?_ (by assumption) ?_
    rotate_left 2
    focus (simp only [List.getElem?_toArray, List.getElem?_cons_succ, List.getElem?_cons_zero] <;> rfl)
    · refine Or.inl ⟨by rfl, ?_⟩
      intro w hSw
      have hcell := (hSw.2).cell (genC_cn _ _)
      clear hSw
      go_simp <;> with_reducible rfl
    (try simp only [Act.put, List.setIfInBounds_toArray, List.set_cons_zero, List.set_cons_succ])
    refine wpAnyH_ready (rs := [1]) (by decide +kernel) (by simp) ?_
    refine AllReadyH.cons (o := ?_) ?_ (fun K hK => ?_) AllReadyH.nil
    rotate_left 1
    focus (simp only [List.getElem?_toArray, List.getElem?_cons_succ, List.getElem?_cons_zero] <;> rfl)
    (try rw [if_pos (by rfl)])
    go_simp
    go_at_call 33
    refine (own_any (A, c) ⟨1, k⟩ _ HL.out KX_0.out).mono ?_
    rintro e wz1 ⟨⟨z, rfl, hk⟩, hb⟩
    have BB1 := Lib.hid (belG BB0.out hb BB0.out.size)
    have KX_1 := Lib.hid (KX_0.out.go hb)
    have HK_1 := Lib.hid (Bx.go HK_0.out hb)
    have HN_1 := Lib.hid (Bx.go HN_0.out hb)
    have KZ_1 := Lib.hid hk
    clear hk
    unfold genC
    clear hb
    refine hK.out _ _ (KEEP.out _ BB1.out HK_1.out) (fun hHeld => ?_)
    clear hK K
    (try dsimp only)
    refine wpAnyH_take (i := 4) (oi := ?_) (v := ?_) ?_ (by kernel_rfl) (by decide +kernel) (by decide +kernel) (fun _ _ _ h => h) ?_ (by assumption) ?_
    rotate_left 2
    focus (simp only [List.getElem?_toArray, List.getElem?_cons_succ, List.getElem?_cons_zero] <;> rfl)
    · refine Or.inl ⟨by rfl, ?_⟩
      intro w hSw
      (try dsimp only at hSw)
      go_simp <;> with_reducible rfl
    (try simp only [Act.put, List.setIfInBounds_toArray, List.set_cons_zero, List.set_cons_succ])
    refine wpAnyH_ready (rs := [5]) (by decide +kernel) (by simp) ?_
    refine AllReadyH.cons (o := ?_) ?_ (fun K hK => ?_) AllReadyH.nil
    rotate_left 1
    focus (simp only [List.getElem?_toArray, List.getElem?_cons_succ, List.getElem?_cons_zero] <;> rfl)
    rw [if_pos (by rfl)]
    refine wp_storeX (.tmp 2) (.tmp 15) W.heap.size (ringC ⟨z, wk0, wk0⟩ ⟨⟨1, k⟩, gn0, gn0, 0, 1⟩) _ tyRing rfl (ringC_one _ _) HN_1.out rfl rfl rfl rfl ?_
    (try simp only [Act.put])
    obtain ⟨wz2, hwz⟩ : ∃ x, x = wz1.setRow W.heap.size (ringC ⟨z, wk0, wk0⟩ ⟨⟨1, k⟩, gn0, gn0, 0, 1⟩) := ⟨_, rfl⟩
    have BB2 := Lib.hid (show Below W.heap.size W wz2 from by rw [hwz]; exact Below.setRowG BB1.out LEN.out _)
    have hq := Bx.setRowOther HK_1.out NEKN.out (ringC ⟨z, wk0, wk0⟩ ⟨⟨1, k⟩, gn0, gn0, 0, 1⟩)
    rw [← hwz] at hq
    have HK_2 := Lib.hid hq
    clear hq
    have HN_2 := Lib.hid (show Bx wz2 W.heap.size 26 (ringC ⟨z, wk0, wk0⟩ ⟨⟨1, k⟩, gn0, gn0, 0, 1⟩) from by rw [hwz]; exact Bx.setRow HN_1.out _)
    have hq := KX_1.out.setRow (C' := (ringC ⟨z, wk0, wk0⟩ ⟨⟨1, k⟩, gn0, gn0, 0, 1⟩)) HN_1.out (no8_ring _ _)
    rw [← hwz] at hq
    have KX_2 := Lib.hid hq
    clear hq
    have hq := KZ_1.out.setRow (C' := (ringC ⟨z, wk0, wk0⟩ ⟨⟨1, k⟩, gn0, gn0, 0, 1⟩)) HN_1.out (no8_ring _ _)
    rw [← hwz] at hq
    have KZ_2 := Lib.hid hq
    clear hq
    rw [← hwz]
    clear hwz
    refine hK.out _ _ (KEEP.out _ BB2.out HK_2.out) (fun hHeld => ?_)
    clear hK K
    (try dsimp only)
    refine wpAnyH_take (i := 6) (oi := ?_) (v := ?_) ?_ (by kernel_rfl) (by decide +kernel) (by decide +kernel) (fun _ _ _ h => h) ?_ (by assumption) ?_
    rotate_left 2
    focus (simp only [List.getElem?_toArray, List.getElem?_cons_succ, List.getElem?_cons_zero] <;> rfl)
    · refine Or.inl ⟨by rfl, ?_⟩
      intro w hSw
      (try dsimp only at hSw)
      go_simp <;> with_reducible rfl
    (try simp only [Act.put, List.setIfInBounds_toArray, List.set_cons_zero, List.set_cons_succ])
    refine wpAnyH_done (by decide +kernel) ?_ _
    refine NoPanic.normal ?_
    clear KEEP
    go_wp2_with fail
    (try dsimp only)
    refine bodyPost_ret (retX2 rfl _ _ W.heap.size (ringC ⟨z, wk0, wk0⟩ ⟨⟨1, k⟩, gn0, gn0, 0, 1⟩) _ tyRing rfl rfl rfl HN_2.out) rfl ?_
    exact ⟨by rw [HT.out]; exact ⟨_, rfl, (show RingR _ ⟨z, wk0, wk0⟩ ⟨⟨1, k⟩, gn0, gn0, 0, 1⟩ from ⟨KZ_2.out, keyR0 _, keyR0 _⟩)⟩, BB2.out⟩
  · have hreal : ¬ RealG ⟨1, k⟩ := fun h => h32 h.2.2
    rw [decide_eq_false hreal]
    have HT := Lib.hid (show newR k = (rg0, 1) from by unfold newR; rw [if_neg h32])
    clear h32 hreal CI
    go_wp2_with (refine storeX (.tmp 2) (.tmp 10) W.heap.size (ringC wg0 rg0) _ tyRing rfl (ringC_one _ _) J.out rfl rfl rfl rfl rfl ?_)
    (try dsimp only)
    refine bodyPost_ret (retX2 rfl _ _ W.heap.size (ringC wg0 rg0) _ tyRing rfl rfl rfl (Bx.setRow J.out _)) rfl ?_
    exact ⟨by rw [HT.out]; exact ⟨wg0, rfl, ringR0 _⟩, Below.setRowG HB.out (Nat.le_refl _) _⟩
set_option maxRecDepth 100000 in
set_option maxHeartbeats 4000000 in
theorem rOfferL_any (x : Wg) (r : Rg) (no : Int) (A : Option Addr) (k : List UInt8) (c : Nat) (W : World) (hf : FewK r) (hr : RingR W x r) (hk5 : k.length ≤ 50000) (hkk : KeyR W (A, c) k) : Calls Try.prog 21 #[.agg (ringC x r), .int .i64 no, .slice A k.length c] W fun e W' => AnsRg W' e (offerR r no k).1 (offerR r no k).2 ∧ Below W.heap.size W W' := by
  have HFW := Lib.hid hf
  have HL := Lib.hid hk5
  have CI := Lib.hid (fun w => isK_any (A, c) ⟨no, k⟩ w)
  have C0 := Lib.hid (fun C x (h : IsR C x r) w (hr : RingR w x r) => emptyW_any h w hr)
  clear hf hk5
  obtain ⟨C, hC⟩ := isR x r
  rw [← hC.eq]
  obtain ⟨V, hV, hb, hg, hj, hs⟩ := bx2 W 26 26 C (ringC wg0 rg0)
  have HC := Lib.hid hC
  have HB := Lib.hid hb
  have HV := Lib.hid (show V = (W.alloc (.cells C 26)).alloc (.cells #[.int .i64 0, .slice none 0 0, .int .i64 0, .slice none 0 0, .int .i64 0, .slice none 0 0, .int .i64 0, .int .i64 0] 26) from hV)
  have G := Lib.hid hg
  have J := Lib.hid hj
  have RR := Lib.hid (hr.go hb)
  have RHK := Lib.hid (hkk.go hb)
  clear hV hb hg hj hr hC hs hkk
  go_enter Try.func21, Try.ntmps21
  go_upto_region 1 with (fail)
  rw [← HV.out]
  clear HV
  go_wp2_with (refine loadX (.tmp 3) W.heap.size C tyRing HC.out.size G.out rfl rfl rfl ?_)
  refine (begunI_any HC.out _ HFW.out RR.out).mono ?_
  rintro e w1 ⟨⟨Z, z, hZ, rfl, hk⟩, hb⟩
  have nHB := Lib.hid (belG HB.out hb HB.out.size)
  have nJ := Lib.hid (Bx.go J.out hb)
  have nRHK := Lib.hid (RHK.out.go hb)
  clear hb
  clear HB J RHK
  have HB := nHB
  have J := nJ
  have RHK := nRHK
  clear nHB nJ nRHK
  have HZ := Lib.hid hZ
  have RZ := Lib.hid hk
  have hsz := hZ.size
  clear hZ hk G RR HC
  obtain ⟨V2, g3, hV, hg, hb1, hb2, hx, hl⟩ := boxed W w1 66 (ringC wg0 rg0) HB.out
  obtain ⟨V3, g9, hV', hg', hb1', hb2', hx', hl'⟩ := boxed W V2 24 (genC wk0 gn0) hb1
  have hxx := Bx.go hx hb2'
  have hjj := Bx.go (Bx.go J.out hb2) hb2'
  have n39 : g3 ≠ g9 := by have h1 := Bx.lt hx; rw [hg']; omega
  have nJ3 : W.heap.size + 1 ≠ g3 := by have h1 := Bx.lt J.out; rw [hg]; omega
  have nJ9 : W.heap.size + 1 ≠ g9 := by have h1 := Bx.lt (Bx.go J.out hb2); rw [hg']; omega
  have hzz := (RZ.out.go hb2).go hb2'
  have hkk := (RHK.out.go hb2).go hb2'
  obtain ⟨V4, hV4⟩ : ∃ U, U = (V3.setRow g3 Z).setRow g9 (genC (A, c) ⟨no, k⟩) := ⟨_, rfl⟩
  have k3 : Bx V4 g3 66 Z := by rw [hV4]; exact Bx.setRowOther (Bx.setRow hxx _) n39 _
  have k9 : Bx V4 g9 24 (genC (A, c) ⟨no, k⟩) := by rw [hV4]; exact Bx.setRow (Bx.setRowOther hx' n39.symm _) _
  have kj : Bx V4 (W.heap.size + 1) 26 (ringC wg0 rg0) := by rw [hV4]; exact Bx.setRowOther (Bx.setRowOther hjj nJ3 _) nJ9 _
  have kb : Below W.heap.size W V4 := by rw [hV4]; exact Below.setRowG (Below.setRowG hb1' hl _) hl' _
  have kz : RingR V4 z r := by rw [hV4]; exact RingR.setRow (C' := (genC (A, c) ⟨no, k⟩)) (RingR.setRow (C' := Z) hzz hxx (no8_ring _ _)) (Bx.setRowOther hx' n39.symm _) (no8_gen _ _)
  have kk : KeyR V4 (A, c) k := by rw [hV4]; exact KeyR.setRow (C' := (genC (A, c) ⟨no, k⟩)) (KeyR.setRow (C' := Z) hkk hxx (no8_ring _ _)) (Bx.setRowOther hx' n39.symm _) (no8_gen _ _)
  have HXX := Lib.hid hxx
  have HX9 := Lib.hid (Bx.setRowOther hx' n39.symm Z)
  have HV4 := Lib.hid hV4
  have HVV := Lib.hid (show V3 = (w1.alloc (.cells #[.int .i64 0, .slice none 0 0, .int .i64 0, .slice none 0 0, .int .i64 0, .slice none 0 0, .int .i64 0, .int .i64 0] 66)).alloc (.cells #[.int .i64 0, .slice none 0 0] 24) from by rw [hV', hV]; rfl)
  have HG3 := Lib.hid hg
  have HG9 := Lib.hid (show g9 = w1.heap.size + 1 from by rw [hg', hV]; simp)
  have nHB := Lib.hid kb
  have nJ := Lib.hid kj
  have nRZ := Lib.hid kz
  have nRHK := Lib.hid kk
  have K := Lib.hid k3
  have L := Lib.hid k9
  have LEK := Lib.hid hl
  have NJK := Lib.hid nJ3
  have NLK := Lib.hid n39.symm
  clear hV hg hb1 hb2 hx hl hV' hg' hb1' hb2' hx' hl' hxx hjj n39 nJ3 nJ9 hzz hkk hV4 k3 k9 kj kb kz kk
  go_upto_region 2 with (first | (rw [← HVV.out, ← HG9.out, ← HG3.out]; refine storeX (.tmp 8) (.tmp 11) g3 Z _ tyWork HZ.out.size HZ.out.one HXX.out rfl rfl rfl rfl rfl ?_) | (refine storeX (.tmp 9) (.tmp 14) g9 (genC (A, c) ⟨no, k⟩) _ tyGen rfl (genC_one _ _) HX9.out rfl rfl rfl rfl rfl ?_))
  clear HB J RZ RHK
  have HB := nHB
  have J := nJ
  have RZ := nRZ
  have RHK := nRHK
  clear nHB nJ nRZ nRHK
  rw [← HV4.out]
  clear HV4 HVV HXX HX9 HG3 HG9
  go_wp2_with (refine loadX (.tmp 9) g9 (genC (A, c) ⟨no, k⟩) tyGen rfl L.out rfl rfl rfl ?_)
  refine (CI.out _).mono ?_
  rintro e w2 ⟨rfl, hb⟩
  have nHB := Lib.hid (belG HB.out hb HB.out.size)
  have nJ := Lib.hid (Bx.go J.out hb)
  have nRZ := Lib.hid (RZ.out.go hb)
  have nRHK := Lib.hid (RHK.out.go hb)
  have nK := Lib.hid (Bx.go K.out hb)
  have nL := Lib.hid (Bx.go L.out hb)
  clear hb
  clear HB J RZ RHK K L
  have HB := nHB
  have J := nJ
  have RZ := nRZ
  have RHK := nRHK
  have K := nK
  have L := nL
  clear nHB nJ nRZ nRHK nK nL
  clear CI
  by_cases hreal : RealG ⟨no, k⟩
  case neg =>
    rw [decide_eq_false hreal]
    have HT := Lib.hid (show offerR r no k = (r, 1) from by
      unfold offerR
      rw [if_pos ?_]
      by_cases e1 : k.length = 32
      · by_cases e2 : no < 1
        · exact .inr (.inl e2)
        · by_cases e3 : 2147483647 < no
          · exact .inr (.inr e3)
          · exact absurd ⟨(by show 1 ≤ no; omega), (by show no ≤ _; omega), e1⟩ hreal
      · exact .inl e1)
    clear hreal
    go_wp2_with (first | (refine loadPx (.tmp 18) g3 0 Z Z tyRing HZ.out.size (part_all Z) K.out rfl rfl rfl ?_) | (refine storeX (.tmp 6) (.tmp 19) (W.heap.size + 1) Z _ tyRing HZ.out.size HZ.out.one J.out rfl rfl rfl rfl rfl ?_))
    (try dsimp only)
    refine bodyPost_ret (retX2 rfl _ _ (W.heap.size + 1) Z _ tyRing HZ.out.size rfl rfl (Bx.setRow J.out _)) rfl ?_
    have hb := Below.setRowG HB.out (Nat.le_succ _) Z
    have hz := RingR.setRow (C' := Z) RZ.out J.out (no8_ring _ _)
    rw [HZ.out.eq] at hb hz ⊢
    exact ⟨by rw [HT.out]; exact ⟨_, rfl, hz⟩, hb⟩
  rw [decide_eq_true hreal]
  have HN := Lib.hid (show ¬ (k.length ≠ 32 ∨ no < 1 ∨ 2147483647 < no) from by
    obtain ⟨e1, e2, e3⟩ := hreal
    have e1' : 1 ≤ no := e1
    have e2' : no ≤ 2147483647 := e2
    rintro (h | h | h)
    · exact h e3
    · omega
    · omega)
  clear hreal
  go_wp2_with (refine loadX (.tmp 8) g3 Z tyWork HZ.out.size K.out rfl rfl rfl ?_)
  refine (C0.out Z z HZ.out _ RZ.out).mono ?_
  rintro e w3 ⟨rfl, hb⟩
  have nHB := Lib.hid (belG HB.out hb HB.out.size)
  have nJ := Lib.hid (Bx.go J.out hb)
  have nRZ := Lib.hid (RZ.out.go hb)
  have nRHK := Lib.hid (RHK.out.go hb)
  have nK := Lib.hid (Bx.go K.out hb)
  have nL := Lib.hid (Bx.go L.out hb)
  clear hb
  clear HB J RZ RHK K L
  have HB := nHB
  have J := nJ
  have RZ := nRZ
  have RHK := nRHK
  have K := nK
  have L := nL
  clear nHB nJ nRZ nRHK nK nL
  clear C0
  by_cases h0 : r = rg0
  · rw [decide_eq_true h0]
    have HT := Lib.hid (show offerR r no k = (r, 9) from by unfold offerR; rw [if_neg HN.out, if_pos (.inl h0)])
    clear h0
    go_wp2_with (first | (refine loadPx (.tmp 38) g3 0 Z Z tyRing HZ.out.size (part_all Z) K.out rfl rfl rfl ?_) | (refine storeX (.tmp 6) (.tmp 39) (W.heap.size + 1) Z _ tyRing HZ.out.size HZ.out.one J.out rfl rfl rfl rfl rfl ?_))
    (try dsimp only)
    refine bodyPost_ret (retX2 rfl _ _ (W.heap.size + 1) Z _ tyRing HZ.out.size rfl rfl (Bx.setRow J.out _)) rfl ?_
    have hb := Below.setRowG HB.out (Nat.le_succ _) Z
    have hz := RingR.setRow (C' := Z) RZ.out J.out (no8_ring _ _)
    rw [HZ.out.eq] at hb hz ⊢
    exact ⟨by rw [HT.out]; exact ⟨_, rfl, hz⟩, hb⟩
  rw [decide_eq_false h0]
  have x0 := K.out.cell HZ.out.at0
  have x4 := K.out.cell HZ.out.at4
  by_cases h2 : no ≤ r.cur.no
  · have HT := Lib.hid (show offerR r no k = (r, 9) from by unfold offerR; rw [if_neg HN.out, if_pos (.inr (.inl h2))])
    clear h0
    go_wp2_with (first | (refine loadPx (.tmp 38) g3 0 Z Z tyRing HZ.out.size (part_all Z) K.out rfl rfl rfl ?_) | (refine storeX (.tmp 6) (.tmp 39) (W.heap.size + 1) Z _ tyRing HZ.out.size HZ.out.one J.out rfl rfl rfl rfl rfl ?_))
    (try dsimp only)
    refine bodyPost_ret (retX2 rfl _ _ (W.heap.size + 1) Z _ tyRing HZ.out.size rfl rfl (Bx.setRow J.out _)) rfl ?_
    have hb := Below.setRowG HB.out (Nat.le_succ _) Z
    have hz := RingR.setRow (C' := Z) RZ.out J.out (no8_ring _ _)
    rw [HZ.out.eq] at hb hz ⊢
    exact ⟨by rw [HT.out]; exact ⟨_, rfl, hz⟩, hb⟩
  by_cases h3 : no < r.pend.no
  · have HT := Lib.hid (show offerR r no k = (r, 9) from by unfold offerR; rw [if_neg HN.out, if_pos (.inr (.inr h3))])
    clear h0
    go_wp2_with (first | (refine loadPx (.tmp 38) g3 0 Z Z tyRing HZ.out.size (part_all Z) K.out rfl rfl rfl ?_) | (refine storeX (.tmp 6) (.tmp 39) (W.heap.size + 1) Z _ tyRing HZ.out.size HZ.out.one J.out rfl rfl rfl rfl rfl ?_))
    (try dsimp only)
    refine bodyPost_ret (retX2 rfl _ _ (W.heap.size + 1) Z _ tyRing HZ.out.size rfl rfl (Bx.setRow J.out _)) rfl ?_
    have hb := Below.setRowG HB.out (Nat.le_succ _) Z
    have hz := RingR.setRow (C' := Z) RZ.out J.out (no8_ring _ _)
    rw [HZ.out.eq] at hb hz ⊢
    exact ⟨by rw [HT.out]; exact ⟨_, rfl, hz⟩, hb⟩
  have HN2 := Lib.hid (show ¬ (r = rg0 ∨ no ≤ r.cur.no ∨ no < r.pend.no) from by
    rintro (h | h | h)
    · exact h0 h
    · exact h2 h
    · exact h3 h)
  clear h0
  go_upto_region 6 with (fail)
  clear h2 h3 x0 x4
  go_wp2_with (refine loadX (.tmp 9) g9 (genC (A, c) ⟨no, k⟩) tyGen rfl L.out rfl rfl rfl ?_)
  refine (own_any (A, c) ⟨no, k⟩ _ HL.out RHK.out).mono ?_
  rintro e w4 ⟨⟨y, rfl, hk⟩, hb⟩
  have nHB := Lib.hid (belG HB.out hb HB.out.size)
  have nJ := Lib.hid (Bx.go J.out hb)
  have nRZ := Lib.hid (RZ.out.go hb)
  have nK := Lib.hid (Bx.go K.out hb)
  clear hb
  clear HB J RZ K
  have HB := nHB
  have J := nJ
  have RZ := nRZ
  have K := nK
  clear nHB nJ nRZ nK
  have RKY := Lib.hid hk
  clear hk L RHK
  unfold genC
  have x4 := K.out.cell HZ.out.at4
  have x5 := K.out.cell HZ.out.at5
  have f4 := K.out.thaw 4
  have f5 := K.out.thaw 5
  go_upto_region 7 with (fail)
  obtain ⟨Y, hY⟩ : ∃ U, U = ((w4.setCell ⟨g3, 4, none⟩ (.int .i64 no)).setCell ⟨g3, 5, none⟩ (.slice y.1 k.length y.2)) := ⟨_, rfl⟩
  have hK := K.out
  rw [HZ.out.eq] at hK
  have hK2 : Bx Y g3 66 (ringC ⟨z.cur, z.old, y⟩ ({ r with pend := ⟨no, k⟩ } : Rg)) := by rw [hY]; exact (Bx.set (j := 5) (v := (.slice y.1 k.length y.2)) (Bx.set (j := 4) (v := (.int .i64 no)) hK rfl) rfl)
  have nHB := Lib.hid (show Below W.heap.size W Y from by rw [hY]; exact (Below.setCell (p := ⟨g3, 5, none⟩) (Below.setCell (p := ⟨g3, 4, none⟩) HB.out LEK.out (.int .i64 no)) LEK.out (.slice y.1 k.length y.2)))
  have nJ := Lib.hid (show Bx Y (W.heap.size + 1) 26 (ringC wg0 rg0) from by rw [hY]; exact (Bx.setOther (Bx.setOther J.out NJK.out 4 (.int .i64 no)) NJK.out 5 (.slice y.1 k.length y.2)))
  have nRZ := Lib.hid (show RingR Y z r from by rw [hY]; exact ((RZ.out.putX hK (by first | exact no8_ring _ _ | (repeat (first | exact no8_ring _ _ | refine no8_set ?_ _ (fun _ h => by cases h)))) 4 [(.int .i64 no)]).putX (Bx.set (j := 4) (v := (.int .i64 no)) hK rfl) (by first | exact no8_ring _ _ | (repeat (first | exact no8_ring _ _ | refine no8_set ?_ _ (fun _ h => by cases h)))) 5 [(.slice y.1 k.length y.2)]))
  have nRKY := Lib.hid (show KeyR Y y k from by rw [hY]; exact ((RKY.out.putX hK (by first | exact no8_ring _ _ | (repeat (first | exact no8_ring _ _ | refine no8_set ?_ _ (fun _ h => by cases h)))) 4 [(.int .i64 no)]).putX (Bx.set (j := 4) (v := (.int .i64 no)) hK rfl) (by first | exact no8_ring _ _ | (repeat (first | exact no8_ring _ _ | refine no8_set ?_ _ (fun _ h => by cases h)))) 5 [(.slice y.1 k.length y.2)]))
  rw [← hY]
  clear hY hK
  clear HB J K HZ hsz RZ RKY
  have HB := nHB
  have J := nJ
  have RZ := nRZ
  have RKY := nRKY
  clear nHB nJ nRZ nRKY
  obtain ⟨Z, hZ⟩ := isR ⟨z.cur, z.old, y⟩ ({ r with pend := ⟨no, k⟩ } : Rg)
  rw [← hZ.eq] at hK2
  have K := Lib.hid hK2
  have HZ := Lib.hid hZ
  have hsz := hZ.size
  clear hK2 hZ
  clear x4 x5 f4 f5
  have x7 : Y.cell? ⟨g3, 7, none⟩ = some (.int .i64 r.top) := K.out.cell HZ.out.at7
  have f7 := K.out.thaw 7
  by_cases h4 : r.top < no
  · have HT := Lib.hid (show offerR r no k = (({ r with pend := ⟨no, k⟩, top := no } : Rg), 0) from by unfold offerR; rw [if_neg HN.out, if_neg HN2.out, show max r.top no = no by omega])
    go_upto_region 8 with (fail)
    obtain ⟨Y2, hY⟩ : ∃ U, U = (Y.setCell ⟨g3, 7, none⟩ (.int .i64 no)) := ⟨_, rfl⟩
    have hK := K.out
    rw [HZ.out.eq] at hK
    have hK2 : Bx Y2 g3 66 (ringC ⟨z.cur, z.old, y⟩ ({ r with pend := ⟨no, k⟩, top := no } : Rg)) := by rw [hY]; exact (Bx.set (j := 7) (v := (.int .i64 no)) hK rfl)
    have nHB := Lib.hid (show Below W.heap.size W Y2 from by rw [hY]; exact (Below.setCell (p := ⟨g3, 7, none⟩) HB.out LEK.out (.int .i64 no)))
    have nJ := Lib.hid (show Bx Y2 (W.heap.size + 1) 26 (ringC wg0 rg0) from by rw [hY]; exact (Bx.setOther J.out NJK.out 7 (.int .i64 no)))
    have nRZ := Lib.hid (show RingR Y2 z r from by rw [hY]; exact (RZ.out.putX hK (by first | exact no8_ring _ _ | (repeat (first | exact no8_ring _ _ | refine no8_set ?_ _ (fun _ h => by cases h)))) 7 [(.int .i64 no)]))
    have nRKY := Lib.hid (show KeyR Y2 y k from by rw [hY]; exact (RKY.out.putX hK (by first | exact no8_ring _ _ | (repeat (first | exact no8_ring _ _ | refine no8_set ?_ _ (fun _ h => by cases h)))) 7 [(.int .i64 no)]))
    rw [← hY]
    clear hY hK
    clear HB J K HZ hsz RZ RKY
    have HB := nHB
    have J := nJ
    have RZ := nRZ
    have RKY := nRKY
    clear nHB nJ nRZ nRKY
    obtain ⟨Z, hZ⟩ := isR ⟨z.cur, z.old, y⟩ ({ r with pend := ⟨no, k⟩, top := no } : Rg)
    rw [← hZ.eq] at hK2
    have K := Lib.hid hK2
    have HZ := Lib.hid hZ
    have hsz := hZ.size
    clear hK2 hZ
    clear x7 f7 h4
    go_wp2_with (first | (refine loadPx (.tmp 51) g3 0 Z Z tyRing HZ.out.size (part_all Z) K.out rfl rfl rfl ?_) | (refine storeX (.tmp 6) (.tmp 52) (W.heap.size + 1) Z _ tyRing HZ.out.size HZ.out.one J.out rfl rfl rfl rfl rfl ?_))
    (try dsimp only)
    refine bodyPost_ret (retX2 rfl _ _ (W.heap.size + 1) Z _ tyRing HZ.out.size rfl rfl (Bx.setRow J.out _)) rfl ?_
    have hb := Below.setRowG HB.out (Nat.le_succ _) Z
    have hz := RingR.setRow (C' := Z) (show RingR _ ⟨z.cur, z.old, y⟩ ({ r with pend := ⟨no, k⟩, top := no } : Rg) from ⟨RZ.out.1, RZ.out.2.1, RKY.out⟩) J.out (no8_ring _ _)
    rw [HZ.out.eq] at hb hz ⊢
    exact ⟨by rw [HT.out]; exact ⟨_, rfl, hz⟩, hb⟩
  · have HT := Lib.hid (show offerR r no k = (({ r with pend := ⟨no, k⟩, top := r.top } : Rg), 0) from by unfold offerR; rw [if_neg HN.out, if_neg HN2.out, show max r.top no = r.top by omega])
    go_upto_region 8 with (fail)
    obtain ⟨Y2, hY⟩ : ∃ U, U = (Y.setCell ⟨g3, 7, none⟩ (.int .i64 r.top)) := ⟨_, rfl⟩
    have hK := K.out
    rw [HZ.out.eq] at hK
    have hK2 : Bx Y2 g3 66 (ringC ⟨z.cur, z.old, y⟩ ({ r with pend := ⟨no, k⟩, top := r.top } : Rg)) := by rw [hY]; exact (Bx.set (j := 7) (v := (.int .i64 r.top)) hK rfl)
    have nHB := Lib.hid (show Below W.heap.size W Y2 from by rw [hY]; exact (Below.setCell (p := ⟨g3, 7, none⟩) HB.out LEK.out (.int .i64 r.top)))
    have nJ := Lib.hid (show Bx Y2 (W.heap.size + 1) 26 (ringC wg0 rg0) from by rw [hY]; exact (Bx.setOther J.out NJK.out 7 (.int .i64 r.top)))
    have nRZ := Lib.hid (show RingR Y2 z r from by rw [hY]; exact (RZ.out.putX hK (by first | exact no8_ring _ _ | (repeat (first | exact no8_ring _ _ | refine no8_set ?_ _ (fun _ h => by cases h)))) 7 [(.int .i64 r.top)]))
    have nRKY := Lib.hid (show KeyR Y2 y k from by rw [hY]; exact (RKY.out.putX hK (by first | exact no8_ring _ _ | (repeat (first | exact no8_ring _ _ | refine no8_set ?_ _ (fun _ h => by cases h)))) 7 [(.int .i64 r.top)]))
    rw [← hY]
    clear hY hK
    clear HB J K HZ hsz RZ RKY
    have HB := nHB
    have J := nJ
    have RZ := nRZ
    have RKY := nRKY
    clear nHB nJ nRZ nRKY
    obtain ⟨Z, hZ⟩ := isR ⟨z.cur, z.old, y⟩ ({ r with pend := ⟨no, k⟩, top := r.top } : Rg)
    rw [← hZ.eq] at hK2
    have K := Lib.hid hK2
    have HZ := Lib.hid hZ
    have hsz := hZ.size
    clear hK2 hZ
    clear x7 f7 h4
    go_wp2_with (first | (refine loadPx (.tmp 51) g3 0 Z Z tyRing HZ.out.size (part_all Z) K.out rfl rfl rfl ?_) | (refine storeX (.tmp 6) (.tmp 52) (W.heap.size + 1) Z _ tyRing HZ.out.size HZ.out.one J.out rfl rfl rfl rfl rfl ?_))
    (try dsimp only)
    refine bodyPost_ret (retX2 rfl _ _ (W.heap.size + 1) Z _ tyRing HZ.out.size rfl rfl (Bx.setRow J.out _)) rfl ?_
    have hb := Below.setRowG HB.out (Nat.le_succ _) Z
    have hz := RingR.setRow (C' := Z) (show RingR _ ⟨z.cur, z.old, y⟩ ({ r with pend := ⟨no, k⟩, top := r.top } : Rg) from ⟨RZ.out.1, RZ.out.2.1, RKY.out⟩) J.out (no8_ring _ _)
    rw [HZ.out.eq] at hb hz ⊢
    exact ⟨by rw [HT.out]; exact ⟨_, rfl, hz⟩, hb⟩
end Go.Proofs.Ytgnccfcdonoegaa
