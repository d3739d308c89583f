
/- MacInner's walk. -/
import Derived.Test.YtgabcbifefokkaaDoorMBlocks
namespace Go.Proofs.YtgabcbifefokkaaDoor
open Go.RowKit

theorem Ow.of_row {w : World} {base g n : Nat} {l : List UInt8} (hb : base ≤ g) (hl : l.length = n) (hn : n ≤ 1000000) (h : w.heap[g]? = some (.cells (cs l).toArray 5 (0, 0))) : Ow w base (.slice (some ⟨g, 0, none⟩) n n) l := by
  subst hl
  refine ⟨by simp [cs], .inr ⟨g, l.length, (cs l).toArray, rfl, hb, h, Nat.le_refl _, by unfold maxLen; omega, by simp [cs], ?_⟩⟩
  rw [List.take_of_length_le (by simp [cs])]
/-- appending to a slice that is full: the bytes lie in a new block -/
theorem run_appG (ty : TypeId) (w : World) (b : Addr) (l news : List UInt8) (A : Option Addr) (n m c B B' : Nat) (hn : n = l.length) (hm : m = news.length) (hl : Rd w B (some b) l) (hr : Rd w B' A news) (h0 : 0 < l.length) (h1 : 0 < news.length) (hlen : l.length + news.length ≤ 1000000) :
    ∃ v' w', (Builtin.append_ #[22, 22] ty #[.slice (some b) n n, .slice A m c]).run Tryd.prog w = .ok v' w' ∧ Ow w' w.heap.size v' (l ++ news) ∧ Below w.heap.size w w' := by
  subst hn hm
  obtain ⟨i0, hi, hz0, hz1, hz2⟩ := info_parts info5
  obtain ⟨b1, o1, e1, -, hc1⟩ := hl h0
  cases e1
  obtain ⟨b2, o2, rfl, -, hc2⟩ := hr h1
  have hold : ∀ j v, (cs l)[j]? = some v → w.cell? ((⟨b1, o1, none⟩ : Addr).add j) = some v := by
    intro j u hu
    have hj : j < l.length := by
      have := (List.getElem?_eq_some_iff.1 hu).1
      simpa [cs] using this
    rw [cs_get l j hj] at hu
    rw [Addr.add_lit, hc1 j hj]
    exact hu
  have hnew : ∀ j v, (cs news)[j]? = some v → w.cell? ((⟨b2, o2, none⟩ : Addr).add j) = some v := by
    intro j u hu
    have hj : j < news.length := by
      have := (List.getElem?_eq_some_iff.1 hu).1
      simpa [cs] using this
    rw [cs_get news j hj] at hu
    rw [Addr.add_lit, hc2 j hj]
    exact hu
  have hrun := run_append_grow (P := Tryd.prog) w 22 ty 5 i0 (.int .u8 0) Tryd.underlying22 hi hz0 ⟨b1, o1, none⟩ l.length l.length (cs l) (by simp [cs, hz1]) hold ⟨b2, o2, none⟩ news.length c (cs news) (by simp [cs, hz1]) hnew (by omega) (by omega) (by rw [hz2]; exact growslice_fits (by omega) (by omega))
  have hge := grownCap_ge w (l.length + news.length) l.length 5
  have hcm : grownCap w (l.length + news.length) l.length 5 ≤ maxLen := grownCap_le_maxLen w (l.length + news.length) l.length 5 (by unfold maxLen; omega)
  have hzc : (Value.int .u8 0).cells.size = 1 := rfl
  refine ⟨_, _, hrun, ⟨by simp [cs], .inr ⟨w.heap.size, _, _, by rw [List.length_append], Nat.le_refl _, heap_alloc_new w.drew _, by rw [List.length_append]; exact hge, hcm, ?_, ?_⟩⟩, (Below.refl _ _).drew.alloc (Nat.le_refl _) _⟩
  · simp only [Array.size_append, List.size_toArray, size_zeroCells, hzc, cs_length]
    omega
  · simp only [Array.toList_append, List.append_assoc]
    rw [← List.append_assoc, ← cs_append, show (l ++ news).length * 1 = (cs (l ++ news)).length by rw [cs_length, Nat.mul_one]]
    exact List.take_left
theorem wp_appG {o : Oper} {a : Act} {K : Act → World → Prop} {Q : Exit → Act → World → Prop} (w : World) (s x : Operand)
    (ho : o.op = .call { callee := .builtin .append, args := #[s, x], argTypes := #[22, 22] })
    (b : Addr) (l news : List UInt8) (A : Option Addr) (n m c B B' : Nat) (hs : a.eval s = .slice (some b) n n) (hx : a.eval x = .slice A m c) (hn : n = l.length) (hm : m = news.length) (hl : Rd w B (some b) l) (hr : Rd w B' A news) (h0 : 0 < l.length) (h1 : 0 < news.length) (hlen : l.length + news.length ≤ 1000000)
    (hK : ∀ v' w', Ow w' w.heap.size v' (l ++ news) → Below w.heap.size w w' → K (a.put o.dst v') w') : o.wp Tryd.prog a w K Q := by
  obtain ⟨v', w', hr, h2, h3⟩ := run_appG o.type w b l news A n m c B B' hn hm hl hr h0 h1 hlen
  unfold Oper.wp execOp
  simp only [ho, resolve, invoke, builtin, Sem.run_bind, Sem.run_pure, Result.andThen_ok, List.map_toArray, List.map_cons, List.map_nil, hs, hx, hr]
  exact hK v' w' h2 h3
theorem b_xorn (y x : UInt8) (n : Int) (h : n = (x.toNat : Int)) : bits .xor .u8 (y.toNat : Int) n = ((y ^^^ x).toNat : Int) := by
  subst h; exact b_xor y x

set_option maxRecDepth 100000 in
set_option maxHeartbeats 4000000 in
theorem macInner_walk (A : Option Addr) (k : List UInt8) (c : Nat) (B : Option Addr) (b : List UInt8) (d : Nat) (W : World) (hc : k.length ≤ c) (hr : Rd W W.heap.size A k) (hd : b.length ≤ d) (hs : Rd W W.heap.size B b) (hk : Ks W) :
    Calls Tryd.prog 6 #[.slice A k.length c, .slice B b.length d] W fun e W' => e = .returned (.bool true) ∧ Below W.heap.size W W' := by
  have RA := Lib.hid (fun w (h : Below W.heap.size W w) => (hr.below h (Nat.le_refl _)).more h.size)
  have RB := Lib.hid (fun w (h : Below W.heap.size W w) => (hs.below h (Nat.le_refl _)).more h.size)
  have KB := Lib.hid (fun w (h : Below W.heap.size W w) => Ks.call hk h)
  obtain ⟨n, hn⟩ : ∃ n, n = k.length := ⟨_, rfl⟩
  obtain ⟨m, hm⟩ : ∃ m, m = b.length := ⟨_, rfl⟩
  by_cases h1 : 200 < n
  · have i1 : (200 : Int) < (n : Int) := by omega
    rw [← hn, ← hm]
    clear hr hs hk hn hm hc hd
    go_enter Tryd.func6, Tryd.ntmps6
    go_wp2_with fail
    refine (shown3_any _ (KB.out _ (Below.refl _ _))).mono ?_
    rintro e W1 ⟨rfl, hb1⟩
    have HB1 := Lib.hid hb1
    clear hb1
    go_wp2
    go_ret
    exact ⟨rfl, HB1.out⟩
  · have i1 : ¬ (200 : Int) < (n : Int) := by omega
    by_cases h2 : 300 < m
    · have i2 : (300 : Int) < (m : Int) := by omega
      rw [← hn, ← hm]
      clear hr hs hk hn hm hc hd
      go_enter Tryd.func6, Tryd.ntmps6
      go_wp2_with fail
      refine (shown3_any _ (KB.out _ (Below.refl _ _))).mono ?_
      rintro e W1 ⟨rfl, hb1⟩
      have HB1 := Lib.hid hb1
      clear hb1
      go_wp2
      go_ret
      exact ⟨rfl, HB1.out⟩
    · have i2 : ¬ (300 : Int) < (m : Int) := by omega
      obtain ⟨i0, hi, hz0, hz1, hz2⟩ := info_parts info5
      have hmk : ∀ W, (Instr.makeSlice 22 (.int .i64 8) (.int .i64 8)).run Tryd.prog W = .ok (.slice (some ⟨W.heap.size, 0, none⟩) 8 8) (W.alloc (.cells (cs (List.replicate 8 0)).toArray 5)) := by
        intro W
        rw [← madeB]
        exact run_make_row' 22 5 (.int .u8 0) 1 Tryd.underlying22 info5 rfl .i64 .i64 8 (by omega) (by omega) W
      have C1 := Lib.hid (fun w h1 h2 => macBlock_any A k c w (by omega) hc h1 h2)
      have HKL := Lib.hid (blkK_length k)
      have CO1 := Lib.hid (fun A' c' w (h0 : 64 + b.length ≤ c') h1 => show Calls Tryd.prog 22 #[.slice A' (64 + b.length) c'] w fun e w' => AnsB w' e (ofF (xorL 54 (blkK k) ++ b)) 32 ∧ Below w.heap.size w w' from by
        have h := refOf_any A' (xorL 54 (blkK k) ++ b) c' w (by rw [List.length_append, xorL_length, blkK_length]; omega) (by rw [List.length_append, xorL_length, blkK_length]; exact h0) h1
        rw [List.length_append, xorL_length, blkK_length] at h
        exact h)
      have CO2 := Lib.hid (fun A' c' w (h0 : 96 ≤ c') h1 => show Calls Tryd.prog 22 #[.slice A' 96 c'] w fun e w' => AnsB w' e (tagF k b) 32 ∧ Below w.heap.size w w' from by
        have e : (xorL 92 (blkK k) ++ ofF (xorL 54 (blkK k) ++ b)).length = 96 := by rw [List.length_append, xorL_length, blkK_length, ofF_len]
        have h := refOf_any A' (xorL 92 (blkK k) ++ ofF (xorL 54 (blkK k) ++ b)) c' w (by rw [e]; omega) (by rw [e]; exact h0) h1
        rw [e] at h
        exact h)
      have T1 := Lib.hid (fun w h1 h2 h3 => tag_any A B k b c d w (by omega) (by omega) hc hd h1 h2 h3)
      have T8 := Lib.hid (fun g w (h1 : Rd w w.heap.size A k) (h2 : Rd w w.heap.size (some ⟨g, 0, none⟩) (List.replicate 8 0)) (h3 : Ks w) => show Calls Tryd.prog 14 #[.slice A k.length c, .slice (some ⟨g, 0, none⟩) 8 8] w fun e w' => AnsB w' e (tagF k (List.replicate 8 0)) 32 ∧ Below w.heap.size w w' from tag_any A (some ⟨g, 0, none⟩) k (List.replicate 8 0) c 8 w (by omega) (by decide) hc (by decide) h1 h2 h3)
      have CK := Lib.hid (fun w h1 h2 => kcv_any A k c w (by omega) hc h1 h2)
      have HKC := Lib.hid (show kcvF k = (tagF k (List.replicate 8 0)).take 3 from rfl)
      rw [HKC.out] at CK
      have HL0 := Lib.hid (tagF_length k (List.replicate 8 0))
      have HLT := Lib.hid (tagF_length k b)
      have HLI := Lib.hid (ofF_len (xorL 54 (blkK k) ++ b))
      have HM := Lib.hid hm
      rw [← hn, ← hm]
      rw [← hn] at C1 T1 T8 CK
      rw [← hm] at T1 CO1
      clear hr hs hk hn hm hc hd HKC
      generalize tagF k b = T at *
      generalize tagF k (List.replicate 8 0) = T0 at *
      generalize ofF (xorL 54 (blkK k) ++ b) = I at *
      generalize blkK k = K at *
      have HX3 := Lib.hid (xat_next 54 K)
      have HX4 := Lib.hid (xat_next 92 K)
      have HA3 := Lib.hid (xat_all 54 K 64 HKL.out)
      have HA4 := Lib.hid (xat_all 92 K 64 HKL.out)
      have HZ8 := Lib.hid (fun (W : World) => Rd.block (heap_alloc_new W (.cells (cs (List.replicate 8 0)).toArray 5 (0, 0))))
      generalize (cs (List.replicate 8 (0 : UInt8))).toArray = Z at *
      go_enter Tryd.func6, Tryd.ntmps6
      go_wp2_with fail
      refine (shown3_any _ (KB.out _ (Below.refl _ _))).mono ?_
      rintro e W1 ⟨rfl, hb1⟩
      have HB1 := Lib.hid hb1
      have hsz1 := hb1.size
      clear hb1
      go_wp2_with fail
      refine (C1.out _ (RA.out _ HB1.out) (KB.out _ HB1.out)).mono ?_
      rintro e W2 ⟨⟨g2, rfl, h21, h22⟩, hb2⟩
      have HB2 := Lib.hid (bel_call HB1.out hb2 hsz1)
      have HG2 := Lib.hid h21
      have hg2 : g2 < W2.heap.size := (Array.getElem?_eq_some_iff.1 h21).1
      clear h21 h22 hb2 HB1 C1
      go_wp2_with (first
        | (at_make; refine wpList_make_row W2 rfl (.const (.int .i64 64)) (.const (.int .i64 64)) 22 rfl 5 i0 (.int .u8 0) Tryd.underlying22 hi hz0 hz1 rfl .i64 .i64 64 rfl rfl (by rw [hz2]; omega) (by omega) ?_; have hr3 := World.rowIs_made W2 (.int .u8 0) 64 5; have hb3 := (Below.refl W2.heap.size W2).alloc (Nat.le_refl _) (.cells (madeCells #[.int .u8 0] 64) 5); have hl3 : W2.heap.size < (W2.alloc (.cells (madeCells #[.int .u8 0] 64) 5)).heap.size := hr3.lt; generalize W2.alloc (.cells (madeCells #[.int .u8 0] 64) 5) = W3 at *; have HR3 := Lib.hid hr3; have HB3 := Lib.hid hb3; clear hr3 hb3)
        | (at_make; refine wpList_make_row W3 rfl (.const (.int .i64 64)) (.const (.int .i64 64)) 22 rfl 5 i0 (.int .u8 0) Tryd.underlying22 hi hz0 hz1 rfl .i64 .i64 64 rfl rfl (by rw [hz2]; omega) (by omega) ?_; have hr4 := World.rowIs_made W3 (.int .u8 0) 64 5; have hq4 := HR3.out.alloc (.cells (madeCells #[.int .u8 0] 64) 5); have hb4 := HB3.out.alloc HB3.out.size (.cells (madeCells #[.int .u8 0] 64) 5); have hl4 : W3.heap.size < (W3.alloc (.cells (madeCells #[.int .u8 0] 64) 5)).heap.size := hr4.lt; generalize W3.alloc (.cells (madeCells #[.int .u8 0] 64) 5) = W4 at *; have HR4 := Lib.hid hr4; have HQ4 := Lib.hid hq4; have HB4 := Lib.hid hb4; clear hr4 hq4 hb4))
      go_loopw [9] (fun v wr => ∃ j : Nat, j ≤ 64 ∧ v = .int .i64 j ∧ wr.rowIs W2.heap.size 5 64 (xat 54 K j) ∧ wr.rowIs W3.heap.size 5 64 (xat 92 K j) ∧ Below W2.heap.size W2 wr) (fun v _ => 64 - (intOf v).toNat)
      case atStart => exact ⟨0, by omega, rfl, HQ4.out.congr (fun j _ => by unfold xat; rw [if_neg (by omega)]; rfl), HR4.out.congr (fun j _ => by unfold xat; rw [if_neg (by omega)]; rfl), HB4.out⟩
      case round =>
        clear HR3 HB3 HR4 HQ4 HB4
        obtain ⟨j, hj, rfl, hr3, hr4, hbel⟩ := hrel
        have HR3 := Lib.hid hr3
        have HR4 := Lib.hid hr4
        have HB := Lib.hid hbel
        have hne34 : W2.heap.size ≠ W3.heap.size := by omega
        clear hr3 hr4 hbel
        by_cases hlt : j < 64
        · have hlti : (j : Int) < 64 := by omega
          have hj0 : (0 : Int) ≤ (j : Int) := Int.natCast_nonneg _
          have c1 : wr.cell? ⟨g2, j, none⟩ = some (.int .u8 ((K.getD j 0).toNat : Int)) := (cs_row (old_below HG2.out HB.out (Nat.le_refl _))).cell (i := j) (by rw [HKL.out]; exact hlt)
          have n3 := HX3.out j
          have n4 := HX4.out j
          generalize K.getD j 0 = y at *
          obtain ⟨v3, hv3⟩ : ∃ v, v = Value.int .u8 (bits .xor .u8 (y.toNat : Int) 54) := ⟨_, rfl⟩
          obtain ⟨v4, hv4⟩ : ∃ v, v = Value.int .u8 (bits .xor .u8 (y.toNat : Int) 92) := ⟨_, rfl⟩
          have c2 := HR3.out.cell (i := j) hlt
          have d2 := HR3.out.frozen j
          have q3 := World.rowIs.congr (g := xat 54 K (j + 1)) (HR3.out.set j v3) (fun i _ => by rw [n3 i, hv3, b_xorn y 54 54 rfl])
          have q4 := HR4.out.setOther (a := ⟨W2.heap.size, j, none⟩) (by exact fun h => hne34 h.symm) v3
          have c3 : (wr.setCell ⟨W2.heap.size, j, none⟩ v3).cell? ⟨g2, j, none⟩ = some (.int .u8 (y.toNat : Int)) := (far (by exact Nat.ne_of_lt hg2)).trans c1
          have c4 := q4.cell (i := j) hlt
          have d4 := q4.frozen j
          have s3 := q3.setOther (a := ⟨W3.heap.size, j, none⟩) hne34 v4
          have s4 := World.rowIs.congr (g := xat 92 K (j + 1)) (q4.set j v4) (fun i _ => by rw [n4 i, hv4, b_xorn y 92 92 rfl])
          have HS3 := Lib.hid s3
          have HS4 := Lib.hid s4
          rw [hv3] at c3 c4 d4
          rw [hv3, hv4] at HS3 HS4
          have HBN := Lib.hid ((HB.out.setCell (p := ⟨W2.heap.size, j, none⟩) (Nat.le_refl _) (Value.int .u8 (bits .xor .u8 (y.toNat : Int) 54))).setCell (p := ⟨W3.heap.size, j, none⟩) (by exact Nat.le_of_lt hl3) (Value.int .u8 (bits .xor .u8 (y.toNat : Int) 92)))
          clear n3 n4 q3 q4 s3 s4 hv3 hv4 hne34
          go_wp2
          go_roundw
          case rel => exact ⟨j + 1, by omega, by go_num, HS3.out, HS4.out, HBN.out⟩
          case measure => simp [intOf]; omega
        · have hj64 : j = 64 := by omega
          subst hj64
          have h3 := row_cs HR3.out (show (xorL 54 K).length = 64 by rw [xorL_length, HKL.out]) HA3.out
          have h4 := row_cs HR4.out (show (xorL 92 K).length = 64 by rw [xorL_length, HKL.out]) HA4.out
          have HO3 := Lib.hid (Ow.of_row (base := W2.heap.size) (Nat.le_refl _) (show (xorL 54 K).length = 64 by rw [xorL_length, HKL.out]) (by omega) h3)
          have H4 := Lib.hid h4
          have HLI2 := Lib.hid (show (xorL 54 K ++ b).length = 64 + m by rw [List.length_append, xorL_length, HKL.out, HM.out])
          obtain ⟨wo, hwo⟩ : ∃ x, x = wr := ⟨_, rfl⟩
          rw [← hwo] at HO3 H4 HB
          rw [← hwo]
          have hszo := HB.out.size
          have hl4' : W3.heap.size < wo.heap.size := (Array.getElem?_eq_some_iff.1 H4.out).1
          clear hwo h3 h4 HR3 HR4 HX3 HX4 HA3 HA4
          obtain ⟨g4, hg4⟩ : ∃ g, g = W3.heap.size := ⟨_, rfl⟩
          rw [← hg4] at H4 hl3 hl4'
          rw [← hg4]
          clear hg4 hl4 hg2 HG2
          have HBo := Lib.hid (HB2.out.trans (HB.out.mono HB2.out.size))
          go_wp2_with (at_builtin; refine wpList_appS wo rfl (.tmp 49) (.tmp 50) rfl W2.heap.size _ _ b rfl (by exact HO3.out) B m d _ rfl HM.out (by exact RB.out _ HBo.out) (by rw [xorL_length, HKL.out, ← HM.out]; omega) hszo ?_; intro v5 W5 hown5 hgrow5; have HB5 := Lib.hid (Ow.below (w0 := W2) (by exact HO3.out) HB.out hgrow5 hszo); have hk4 : W5.heap[g4]? = wo.heap[g4]? := hgrow5.block g4 hl4' (fun h => by have h2 : g4 = W2.heap.size := Option.some.inj h; omega); have H45 := Lib.hid (hk4.trans H4.out); obtain ⟨A5, c5, e5, h51, h52, h53⟩ := hown5.form; rw [HLI2.out] at e5 h51; subst e5; have HR5 := Lib.hid h53; have hsz5 := HB5.out.size; clear hown5 hgrow5 h53 hk4)
          refine (CO1.out A5 c5 _ h51 HR5.out).mono ?_
          rintro e W6 ⟨⟨A6, c6, rfl, h61, h62, h63⟩, hb6⟩
          have HB6 := Lib.hid (bel_call HB5.out hb6 hsz5)
          have H46 := Lib.hid (old_below H45.out hb6 (Nat.le_refl _))
          have HR6 := Lib.hid h63
          have HBW6 := Lib.hid (HB2.out.trans (HB6.out.mono HB2.out.size))
          have hsz6 := HBW6.out.size
          clear hb6 h63 HB5 H45 HR5 HO3 H4 HB CO1 h51 h52
          have HBz := Lib.hid (HBW6.out.alloc hsz6 (.cells Z 5))
          go_wp2_with fail
          refine (T8.out W6.heap.size _ (RA.out _ HBz.out) (HZ8.out W6) (KB.out _ HBz.out)).mono ?_
          rintro e V ⟨⟨A7, c7, rfl, h71, h72, h73⟩, hb7⟩
          have hz : Below W6.heap.size W6 (W6.alloc (.cells Z 5)) := (Below.refl _ _).alloc (Nat.le_refl _) _
          have HV := Lib.hid (bel_call hz hb7 hz.size)
          have HBV := Lib.hid (HBW6.out.trans (HV.out.mono hsz6))
          have ROUT := Lib.hid (fun w (h : Below V.heap.size V w) => Rd.block (old_below (old_below H46.out HV.out (Nat.le_refl _)) h (Nat.le_refl _)))
          have hi6 := (HR6.out.below HV.out (Nat.le_refl _)).more HV.out.size
          have RI := Lib.hid (fun w (h : Below V.heap.size V w) => (hi6.below h (Nat.le_refl _)).more h.size)
          have RT0 := Lib.hid (fun w (h : Below V.heap.size V w) => (h73.below h (Nat.le_refl _)).more h.size)
          have RAV := Lib.hid (fun w (h : Below V.heap.size V w) => RA.out w (HBV.out.trans (h.mono HBV.out.size)))
          have RBV := Lib.hid (fun w (h : Below V.heap.size V w) => RB.out w (HBV.out.trans (h.mono HBV.out.size)))
          have KBV := Lib.hid (fun w (h : Below V.heap.size V w) => KB.out w (HBV.out.trans (h.mono HBV.out.size)))
          have h7i : (3 : Int) ≤ (c7 : Int) := by omega
          clear hb7 hz h73 hi6 HV RA RB KB HBz HBW6 HB6 H46 HR6 HZ8 T8 h72 hmk
          go_wp2_with fail
          have BB0 := Lib.hid ((Below.refl V.heap.size V).drew)
          have HLO := Lib.hid (show 64 = (xorL 92 K).length by rw [xorL_length, HKL.out])
          have HLS := Lib.hid (show (xorL 92 K ++ I).length = 96 by rw [List.length_append, xorL_length, HKL.out, HLI.out])
          have HL3 := Lib.hid (show 3 = (T0.take 3).length by rw [List.length_take, HL0.out]; rfl)
          have HP1 := Lib.hid (show 0 < (xorL 92 K).length by rw [← HLO.out]; omega)
          have HP2 := Lib.hid (show 0 < I.length by rw [HLI.out]; omega)
          have HP3 := Lib.hid (show (xorL 92 K).length + I.length ≤ 1000000 by rw [← HLO.out, HLI.out]; omega)
          have CG := Lib.hid (fun (o : Oper) (a : Act) (Kk : Act → World → Prop) (Q : Exit → Act → World → Prop) (w : World) (ho : o.op = .call { callee := .builtin .append, args := #[.tmp 61, .tmp 62], argTypes := #[22, 22] }) (h1 : a.eval (.tmp 61) = .slice (some ⟨g4, 0, none⟩) 64 64) (h2 : a.eval (.tmp 62) = .slice A6 32 c6) (h3 : Rd w w.heap.size (some ⟨g4, 0, none⟩) (xorL 92 K)) (h4 : Rd w w.heap.size A6 I) (hK : ∀ v' w', Ow w' w.heap.size v' (xorL 92 K ++ I) → Below w.heap.size w w' → Kk (a.put o.dst v') w') => (wp_appG w (.tmp 61) (.tmp 62) ho ⟨g4, 0, none⟩ (xorL 92 K) I A6 64 32 c6 w.heap.size w.heap.size h1 h2 HLO.out HLI.out.symm h3 h4 HP1.out HP2.out HP3.out hK : o.wp Tryd.prog a w Kk Q))
          go_region_held3 (fun w' => Below V.heap.size V w')
            (first | with_reducible exact BB0.out | with_reducible exact BB1.out | with_reducible exact BBA.out | with_reducible exact BB2.out | with_reducible exact BB4.out)
            (first
            | (go_at_call 14; (with_reducible refine (T1.out _ ?_ ?_ ?_).mono ?_); (first | exact RAV.out _ BBA.out | exact RAV.out _ BB0.out); (first | exact RBV.out _ BBA.out | exact RBV.out _ BB0.out); (first | exact KBV.out _ BBA.out | exact KBV.out _ BB0.out); rintro e w1 ⟨⟨A1, c1, rfl, a1, a2, a3⟩, hb⟩; have BB1 := Lib.hid (by first | exact bel_call BBA.out hb BBA.out.size | exact bel_call BB0.out hb (by exact Nat.le_refl _)); have R1 := Lib.hid a3; (try (have RP1 := Lib.hid ((RPA.out.below hb (Nat.le_refl _)).more hb.size))); clear hb a1 a2 a3)
            | (rw [if_pos (by rfl)]; (refine CG.out _ _ _ _ _ (by rfl) (by rfl) (by rfl) ?_ ?_ ?_); (first | exact ROUT.out _ BB1.out | exact ROUT.out _ BB0.out); (first | exact RI.out _ BB1.out | exact RI.out _ BB0.out); intro vA wA hownA hbA; have BBA := Lib.hid (by first | exact bel_call BB1.out hbA BB1.out.size | exact bel_call BB0.out hbA (by exact Nat.le_refl _)); obtain ⟨Av, cv, ev, hv1, hv2, hv3⟩ := hownA.form; rw [HLS.out] at ev hv1; subst ev; have RPA := Lib.hid hv3; (try (have R1A := Lib.hid ((R1.out.below hbA (Nat.le_refl _)).more hbA.size))); clear hownA hbA hv3)
            | (go_at_call 22; (with_reducible refine (CO2.out Av cv _ hv1 ?_).mono ?_); (first | exact RPA.out | exact RP1.out); rintro e w2 ⟨⟨A2, c2, rfl, a1, a2, a3⟩, hb⟩; have BB2 := Lib.hid (by first | exact bel_call BBA.out hb BBA.out.size | exact bel_call BB1.out hb BB1.out.size); have R2 := Lib.hid a3; have R12 := Lib.hid (by first | exact (R1A.out.below hb (Nat.le_refl _)).more hb.size | exact (R1.out.below hb (Nat.le_refl _)).more hb.size); clear hb a1 a2 a3)
            | (go_at_call 11; (with_reducible refine (refSame_n A1 A2 T T c1 c2 32 32 _ HLT.out.symm HLT.out.symm rfl ?_ ?_).mono ?_); (exact R12.out); (exact R2.out); rintro e w3 ⟨rfl, rfl⟩)
            | (go_at_call 16; (with_reducible refine (CK.out _ ?_ ?_).mono ?_); (exact RAV.out _ BB2.out); (exact KBV.out _ BB2.out); rintro e w4 ⟨⟨A4, c4, rfl, a1, a2, a3⟩, hb⟩; have BB4 := Lib.hid (bel_call BB2.out hb BB2.out.size); have R4 := Lib.hid a3; clear hb a1 a2 a3)
            | (go_at_call 11; (with_reducible refine (refSame_n A4 A7 (T0.take 3) (T0.take 3) c4 c7 3 3 _ HL3.out HL3.out rfl ?_ ?_).mono ?_); (exact R4.out); (exact rd3 (RT0.out _ BB4.out) (by rw [HL0.out]; omega)); rintro e w5 ⟨rfl, rfl⟩))
          all_goals
            go_wp2_with fail
            go_ret
            exact ⟨rfl, HBV.out.trans (BB4.out.mono HBV.out.size)⟩
end Go.Proofs.YtgabcbifefokkaaDoor
