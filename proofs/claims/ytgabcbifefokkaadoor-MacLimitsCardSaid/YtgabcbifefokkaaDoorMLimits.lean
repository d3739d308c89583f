
/- MacLimits' walk. -/
import Derived.Test.YtgabcbifefokkaaDoorMDerives
import Derived.Test.YtgabcbifefokkaaDoorMBlocks
import Derived.Test.YtgabcbifefokkaaDoorOpenH
import Derived.Lib.AppendZerosOnto
namespace Go.Proofs.YtgabcbifefokkaaDoor
open Go.RowKit

theorem info22 : (Tryd.prog.info? 22).map (fun i => (i.zero, i.size, i.bytes)) = some (some (.slice none 0 0), 1, 24) := by kernel_rfl
theorem told_noughts (L q : Nat) : toldF (List.replicate L 0) (List.replicate q []) = UInt8.ofNat L :: List.replicate (L + 2 * q) 0 := by
  have h : ∀ j, ((List.replicate j ([] : List UInt8)).flatMap piece) = List.replicate (2 * j) 0 := by
    intro j
    induction j with
    | zero => rfl
    | succ j ih =>
      rw [List.replicate_succ, List.flatMap_cons, ih]
      show [0, 0] ++ List.replicate (2 * j) 0 = List.replicate (2 * (j + 1)) 0
      rw [show 2 * (j + 1) = 2 * j + 1 + 1 by omega, List.replicate_succ, List.replicate_succ]
      rfl
  unfold toldF toldN
  rw [List.length_replicate, List.length_replicate, List.take_of_length_le (by rw [List.length_replicate]; omega), h, List.cons_append, List.replicate_append_replicate]
theorem tot_noughts (q k : Nat) : tot (List.replicate q []) k = 0 := by
  unfold tot
  rw [List.take_replicate, List.map_replicate]
  simp
theorem mat_noughts {W : World} {g q : Nat} (h : W.rowIs g 22 q (fun _ => .slice none 0 0)) : Mat W W.heap.size (some ⟨g, 0, none⟩) (List.replicate q []) := by
  intro _
  refine ⟨g, 0, rfl, h.lt, fun j hj => ?_⟩
  have hj2 : j < q := by simpa using hj
  have e : (List.replicate q ([] : List UInt8))[j] = [] := List.getElem_replicate hj
  rw [e]
  refine ⟨none, 0, ?_, Nat.le_refl _, by omega, Rd.nil⟩
  rw [Nat.zero_add]
  exact h.cell hj2

/-- appending noughts to one byte -/
theorem run_appZ (ty : TypeId) (w : World) (base g : Nat) (x : UInt8) (Z : Nat) (h : Ow w base (.slice (some ⟨g, 0, none⟩) 1 1) [x]) (hZ : Z ≤ 100000) (hbase : base ≤ w.heap.size) :
    ∃ v' w', (Builtin.append_ #[22, 3] ty #[.slice (some ⟨g, 0, none⟩) 1 1, .int .i64 Z]).run Tryd.prog w = .ok v' w' ∧ Ow w' base v' (x :: List.replicate Z 0) ∧ Below w.heap.size w w' := by
  obtain ⟨i0, hi, hz0, hz1, hz2⟩ := info_parts info5
  rcases Nat.eq_zero_or_pos Z with rfl | h0
  · refine ⟨.slice (some ⟨g, 0, none⟩) 1 1, w, ?_, h, Below.refl _ _⟩
    simp [Builtin.append_, run_underlying Tryd.underlying22, run_underlying Tryd.underlying3, sizeOf, typeInfo, hi, asInt, asIntOf, storeCells, IntKind.wrap_i64]
  · have holds : ∀ j u, (cs [x])[j]? = some u → w.drew.cell? ((⟨g, 0, none⟩ : Addr).add j) = some u := World.ownsRow.cells h (g := g) rfl
    have hf := run_firstCells_some (P := Tryd.prog) w.drew i0.size 1 ⟨g, 0, none⟩ 1 1 (cs [x]) (by rw [hz1]; rfl) holds
    have hrun := Lib.run_append_grow_zeros (P := Tryd.prog) w 22 3 ty 5 i0 (.int .u8 0) .i64 .i64 Tryd.underlying22 Tryd.underlying3 hi hz0 (some ⟨g, 0, none⟩) 1 1 (cs [x]) hf Z h0 (by rw [hz1]; omega) (by omega) (by omega) (by rw [hz2]; omega) (by rw [hz2]; exact growslice_fits (by omega) (by omega))
    have hge := grownCap_ge w (1 + Z) 1 5
    have hcm : grownCap w (1 + Z) 1 5 ≤ maxLen := grownCap_le_maxLen w (1 + Z) 1 5 (by unfold maxLen; omega)
    have hzc : (Value.int .u8 0).cells.size = 1 := rfl
    have hzz : (Builtin.zeroCells (Value.int .u8 0).cells Z).toList = cs (List.replicate Z 0) := by
      apply List.ext_getElem?
      intro j
      by_cases hj : j < Z
      · simp [Builtin.zeroCells, cs, Value.cells, hj, Nat.mod_one]
      · simp [Builtin.zeroCells, cs, Value.cells, hj, Nat.mod_one]
    have hlen : (x :: List.replicate Z (0 : UInt8)).length = 1 + Z := by simp; omega
    refine ⟨_, _, hrun, ⟨by simp [cs], .inr ⟨w.heap.size, _, _, by rw [hlen], hbase, heap_alloc_new w.drew _, by rw [hlen]; exact hge, hcm, ?_, ?_⟩⟩, (Below.refl _ _).drew.alloc (Nat.le_refl _) _⟩
    · simp only [Array.size_append, List.size_toArray, size_zeroCells, hzc, cs_length, List.length_cons, List.length_nil]
      omega
    · simp only [Array.toList_append, hzz]
      rw [← cs_append, List.singleton_append, show (x :: List.replicate Z (0 : UInt8)).length * 1 = (cs (x :: List.replicate Z 0)).length by rw [cs_length, Nat.mul_one]]
      exact List.take_left
theorem wpList_appZ {ops : Array Oper} {rest : List Oper} {o : Oper} {a : Act} {Q : Exit → Act → World → Prop} (w : World) (hw : Region.wanted o (yielded ops a.tmps) = true) (s y : Operand)
    (ho : o.op = .call { callee := .builtin .append, args := #[s, y], argTypes := #[22, 3] })
    (base g : Nat) (x : UInt8) (Z : Nat) (hs : a.eval s = .slice (some ⟨g, 0, none⟩) 1 1) (hy : a.eval y = .int .i64 Z) (h : Ow w base (.slice (some ⟨g, 0, none⟩) 1 1) [x]) (hZ : Z ≤ 100000) (hbase : base ≤ w.heap.size)
    (hK : ∀ v' w', Ow w' base v' (x :: List.replicate Z 0) → Below w.heap.size w w' → wpList Tryd.prog ops Q rest (a.put o.dst v') w') : wpList Tryd.prog ops Q (o :: rest) a w :=
  BigFrame.wpList_want hw fun K hK' => by
    obtain ⟨v', w', hr, h2, h3⟩ := run_appZ o.type w base g x Z h hZ hbase
    exact Lib.wp_append_run w s y 22 3 ho _ _ hs hy v' w' hr (hK' _ _ (hK v' w' h2 h3))

set_option maxRecDepth 100000 in
set_option maxHeartbeats 4000000 in
theorem macLimits_walk (A : Option Addr) (k : List UInt8) (c : Nat) (t y : Int) (W : World) (hc : k.length ≤ c) (hr : Rd W W.heap.size A k) (ht : 0 ≤ t ∧ t ≤ 65535) (hy : 0 ≤ y ∧ y ≤ 255) (hk : Ks W) :
    Calls Tryd.prog 9 #[.slice A k.length c, .int .u16 t, .int .u8 y] W fun e W' => e = .returned (.bool true) ∧ Below W.heap.size W W' := by
  have RA := Lib.hid (fun w (h : Below W.heap.size W w) => (hr.below h (Nat.le_refl _)).more h.size)
  have KB := Lib.hid (fun w (h : Below W.heap.size W w) => Ks.call hk h)
  obtain ⟨T, rfl⟩ := Int.eq_ofNat_of_zero_le ht.1
  obtain ⟨M, rfl⟩ := Int.eq_ofNat_of_zero_le hy.1
  obtain ⟨n, hn⟩ : ∃ n, n = k.length := ⟨_, rfl⟩
  by_cases h1 : 100 < n
  · have i1 : (100 : Int) < (n : Int) := by omega
    rw [← hn]
    clear hr hk hn hc ht hy
    go_enter Tryd.func9, Tryd.ntmps9
    go_wp2_with fail
    refine (shown3_any _ (KB.out _ (Below.refl _ _))).mono ?_
    rintro e W1 ⟨rfl, hb1⟩
    have HB1 := Lib.hid hb1
    clear hb1
    go_wp2
    go_ret
    exact ⟨rfl, HB1.out⟩
  · have i1 : ¬ (100 : Int) < (n : Int) := by omega
    obtain ⟨i0, hi, hz0, hz1, hz2⟩ := info_parts info5
    obtain ⟨j0, hj, hj0, hj1, hj2⟩ := info_parts info22
    obtain ⟨L, hL⟩ : ∃ L, L = T % 300 := ⟨_, rfl⟩
    obtain ⟨q, hq⟩ : ∃ q, q = M % 20 := ⟨_, rfl⟩
    have hL3 : L < 300 := by rw [hL]; exact Nat.mod_lt _ (by omega)
    have hq3 : q < 20 := by rw [hq]; exact Nat.mod_lt _ (by omega)
    have r1 : (T : Int).tmod 300 = (L : Int) := by rw [Int.tmod_eq_emod_of_nonneg (by omega), hL]; rfl
    have r2 : (T : Int) % 300 = (L : Int) := by rw [hL]; rfl
    have r3 : (M : Int).tmod 20 = (q : Int) := by rw [Int.tmod_eq_emod_of_nonneg (by omega), hq]; rfl
    have r4 : (M : Int) % 20 = (q : Int) := by rw [hq]; rfl
    have b1 : (L : Int) < 300 := by omega
    have b2 : (0 : Int) ≤ (L : Int) := Int.natCast_nonneg _
    have b3 : (q : Int) < 20 := by omega
    have b4 : (0 : Int) ≤ (q : Int) := Int.natCast_nonneg _
    have b5 : (T : Int) ≤ 65535 := ht.2
    have b6 : (M : Int) ≤ 255 := hy.2
    obtain ⟨S0, hS0⟩ : ∃ S0 : ByteArray, S0 = ⟨(List.replicate L (0 : UInt8)).toArray⟩ := ⟨_, rfl⟩
    have hSz : S0.size = L := by rw [hS0]; show (List.replicate L (0 : UInt8)).toArray.size = L; simp
    have hSd : S0.data.toList = List.replicate L 0 := by rw [hS0]
    have HS0 := Lib.hid hS0
    have HSZ := Lib.hid hSz
    have HLN := Lib.hid hL3
    have HQN := Lib.hid hq3
    have hSi : (S0.size : Int) = (L : Int) := by omega
    have RS := Lib.hid (fun (w w' : World) (h : w'.heap[w.heap.size]? = some (.cells (cs (List.replicate L 0)).toArray 5 (0, 0))) => show (convert 22 9 (.slice (some ⟨w.heap.size, 0, none⟩) L L)).run Tryd.prog w' = .ok (.string S0) w' from by
      have h2 := run_str (P := Tryd.prog) (Rd.block h) L 22 9 5 Tryd.underlying22 Tryd.underlying5 Tryd.underlying9
      rw [List.length_replicate, ← HS0.out] at h2
      exact h2)
    by_cases hbad : 255 < L ∨ 16 < q
    · have C1 := Lib.hid (fun P w => derive_bad A P n c q q S0 w (by omega) (by omega) (by omega))
      by_cases g1 : 255 < L
      · have g1i : (255 : Int) < (L : Int) := by omega
        clear hbad
        rw [← hn]
        clear hr hk hn hc ht hy hS0 hSd hL hq hSz
        go_enter Tryd.func9, Tryd.ntmps9
        go_wp2_with fail
        refine (shown3_any _ (KB.out _ (Below.refl _ _))).mono ?_
        rintro e W1 ⟨rfl, hb1⟩
        have HB1 := Lib.hid hb1
        have hsz1 := hb1.size
        clear hb1
        go_wp2_with (first
          | (at_make; refine wpList_make_row W1 rfl (.tmp 20) (.tmp 20) 22 rfl 5 i0 (.int .u8 0) Tryd.underlying22 hi hz0 hz1 rfl .i64 .i64 L rfl rfl (by rw [hz2]; have := HLN.out; omega) (by have := HLN.out; omega) ?_; have ha2 := heap_alloc_new W1 (.cells (madeCells #[.int .u8 0] L) 5); have hb2 := HB1.out.alloc hsz1 (.cells (madeCells #[.int .u8 0] L) 5); generalize W1.alloc (.cells (madeCells #[.int .u8 0] L) 5) = W2 at *; rw [madeB] at ha2; have hst := RS.out W1 W2 ha2; have HB2 := Lib.hid hb2; have hsz2 := hb2.size; clear ha2 hb2)
          | (at_make; refine wpList_make_row W2 rfl (.tmp 25) (.tmp 25) 27 rfl 22 j0 (.slice none 0 0) Tryd.underlying27 hj hj0 hj1 rfl .i64 .i64 q rfl rfl (by rw [hj2]; have := HQN.out; omega) (by have := HQN.out; omega) ?_; have ha3 := World.rowIs_made W2 (.slice none 0 0) q 22; have hb3 := HB2.out.alloc hsz2 (.cells (madeCells #[.slice none 0 0] q) 22); generalize W2.alloc (.cells (madeCells #[.slice none 0 0] q) 22) = W3 at *; have HM3 := Lib.hid (mat_noughts ha3); have HB3 := Lib.hid hb3; have hsz3 := hb3.size; clear ha3 hb3))
        refine (C1.out _ _).mono ?_
        rintro e W4 ⟨rfl, rfl⟩
        go_wp2
        go_ret
        exact ⟨rfl, HB3.out⟩
      · have g1i : ¬ (255 : Int) < (L : Int) := by omega
        have g2i : (16 : Int) < (q : Int) := by omega
        clear hbad
        rw [← hn]
        clear hr hk hn hc ht hy hS0 hSd hL hq hSz
        go_enter Tryd.func9, Tryd.ntmps9
        go_wp2_with fail
        refine (shown3_any _ (KB.out _ (Below.refl _ _))).mono ?_
        rintro e W1 ⟨rfl, hb1⟩
        have HB1 := Lib.hid hb1
        have hsz1 := hb1.size
        clear hb1
        go_wp2_with (first
          | (at_make; refine wpList_make_row W1 rfl (.tmp 20) (.tmp 20) 22 rfl 5 i0 (.int .u8 0) Tryd.underlying22 hi hz0 hz1 rfl .i64 .i64 L rfl rfl (by rw [hz2]; have := HLN.out; omega) (by have := HLN.out; omega) ?_; have ha2 := heap_alloc_new W1 (.cells (madeCells #[.int .u8 0] L) 5); have hb2 := HB1.out.alloc hsz1 (.cells (madeCells #[.int .u8 0] L) 5); generalize W1.alloc (.cells (madeCells #[.int .u8 0] L) 5) = W2 at *; rw [madeB] at ha2; have hst := RS.out W1 W2 ha2; have HB2 := Lib.hid hb2; have hsz2 := hb2.size; clear ha2 hb2)
          | (at_make; refine wpList_make_row W2 rfl (.tmp 25) (.tmp 25) 27 rfl 22 j0 (.slice none 0 0) Tryd.underlying27 hj hj0 hj1 rfl .i64 .i64 q rfl rfl (by rw [hj2]; have := HQN.out; omega) (by have := HQN.out; omega) ?_; have ha3 := World.rowIs_made W2 (.slice none 0 0) q 22; have hb3 := HB2.out.alloc hsz2 (.cells (madeCells #[.slice none 0 0] q) 22); generalize W2.alloc (.cells (madeCells #[.slice none 0 0] q) 22) = W3 at *; have HM3 := Lib.hid (mat_noughts ha3); have HB3 := Lib.hid hb3; have hsz3 := hb3.size; clear ha3 hb3))
        refine (C1.out _ _).mono ?_
        rintro e W4 ⟨rfl, rfl⟩
        go_wp2
        go_ret
        exact ⟨rfl, HB3.out⟩
    · have g1i : ¬ (255 : Int) < (L : Int) := by omega
      have g2i : ¬ (16 : Int) < (q : Int) := by omega
      have hTL : (UInt8.ofNat L :: List.replicate (L + 2 * q) (0 : UInt8)).length = 1 + (L + 2 * q) := by simp; omega
      have C1 := Lib.hid (fun g w h1 (h2 : Mat w w.heap.size (some ⟨g, 0, none⟩) (List.replicate q [])) h3 => show Calls Tryd.prog 20 #[.slice A k.length c, .string S0, .slice (some ⟨g, 0, none⟩) q q] w fun e w' => Ans w' e (tagF k (UInt8.ofNat L :: List.replicate (L + 2 * q) 0)) 32 (.int .i64 0) ∧ Below w.heap.size w w' from by
        have h := derive_ok A (some ⟨g, 0, none⟩) k (List.replicate q []) c q S0 w (by omega) hc (by omega) (by rw [List.length_replicate]; omega) (by rw [tot_noughts]; omega) h1 h2 h3
        rw [hSd, told_noughts, List.length_replicate] at h
        exact h)
      have C2 := Lib.hid (fun A' c' w (h0 : 1 + (L + 2 * q) ≤ c') h1 h2 => show Calls Tryd.prog 15 #[.slice A k.length c, .slice A' (1 + (L + 2 * q)) c'] w fun e w' => AnsO w.heap.size w' e (tagF k (UInt8.ofNat L :: List.replicate (L + 2 * q) 0)) ∧ Below w.heap.size w w' from by
        have h := refTag_any A A' k (UInt8.ofNat L :: List.replicate (L + 2 * q) 0) c c' w (by omega) (by omega) hc h1 h2
        rw [hTL] at h
        exact h)
      have HTL := Lib.hid (tagF_length k (UInt8.ofNat L :: List.replicate (L + 2 * q) 0))
      have HFL := Lib.hid hTL
      generalize tagF k (UInt8.ofNat L :: List.replicate (L + 2 * q) 0) = R at *
      have LB := Lib.hid (show (L : Int) = ((UInt8.ofNat L).toNat : Int) by rw [UInt8.toNat_ofNat']; omega)
      obtain ⟨Z, hZ⟩ : ∃ Z, Z = L + 2 * q := ⟨_, rfl⟩
      rw [← hZ] at C2 HFL
      have HZ := Lib.hid (show Z ≤ 100000 by omega)
      obtain ⟨p, hp⟩ : ∃ p, p = 2 * q := ⟨_, rfl⟩
      have z1 : (2 : Int) * (q : Int) = (p : Int) := by omega
      have z2 : (L : Int) + (p : Int) = (Z : Int) := by omega
      have z3 : (p : Int) ≤ 100 := by omega
      have z4 : (Z : Int) ≤ 1000 := by omega
      have z5 : (0 : Int) ≤ (Z : Int) := Int.natCast_nonneg _
      have z6 : (0 : Int) ≤ (p : Int) := Int.natCast_nonneg _
      rw [← hn] at C1 C2
      clear hbad hTL hZ hp
      rw [← hn]
      clear hr hk hn hc ht hy hS0 hSd hL hq hSz
      go_enter Tryd.func9, Tryd.ntmps9
      go_wp2_with fail
      refine (shown3_any _ (KB.out _ (Below.refl _ _))).mono ?_
      rintro e W1 ⟨rfl, hb1⟩
      have HB1 := Lib.hid hb1
      have hsz1 := hb1.size
      clear hb1
      go_wp2_with (first
        | (at_make; refine wpList_make_row W1 rfl (.tmp 20) (.tmp 20) 22 rfl 5 i0 (.int .u8 0) Tryd.underlying22 hi hz0 hz1 rfl .i64 .i64 L rfl rfl (by rw [hz2]; have := HLN.out; omega) (by have := HLN.out; omega) ?_; have ha2 := heap_alloc_new W1 (.cells (madeCells #[.int .u8 0] L) 5); have hb2 := HB1.out.alloc hsz1 (.cells (madeCells #[.int .u8 0] L) 5); generalize W1.alloc (.cells (madeCells #[.int .u8 0] L) 5) = W2 at *; rw [madeB] at ha2; have hst := RS.out W1 W2 ha2; have HB2 := Lib.hid hb2; have hsz2 := hb2.size; clear ha2 hb2)
        | (at_make; refine wpList_make_row W2 rfl (.tmp 25) (.tmp 25) 27 rfl 22 j0 (.slice none 0 0) Tryd.underlying27 hj hj0 hj1 rfl .i64 .i64 q rfl rfl (by rw [hj2]; have := HQN.out; omega) (by have := HQN.out; omega) ?_; have ha3 := World.rowIs_made W2 (.slice none 0 0) q 22; have hb3 := HB2.out.alloc hsz2 (.cells (madeCells #[.slice none 0 0] q) 22); generalize W2.alloc (.cells (madeCells #[.slice none 0 0] q) 22) = W3 at *; have HM3 := Lib.hid (mat_noughts ha3); have HB3 := Lib.hid hb3; have hsz3 := hb3.size; clear ha3 hb3))
      refine (C1.out _ _ (RA.out _ HB3.out) HM3.out (KB.out _ HB3.out)).mono ?_
      rintro e W4 ⟨⟨A4, c4, rfl, h41, h42, h43⟩, hb4⟩
      have HB4 := Lib.hid (bel_call HB3.out hb4 hsz3)
      have HR4 := Lib.hid h43
      have hsz4 := HB4.out.size
      clear h43 hb4 C1 h41 h42
      go_wp2_with (at_builtin; refine wpList_appZ (W4.alloc (.cells #[.int .u8 (L : Int)] 5)) rfl (.tmp 65) (.tmp 71) rfl W4.heap.size W4.heap.size (UInt8.ofNat L) Z rfl rfl (by exact Ow.made1i W4 (Nat.le_refl _) _ _ LB.out) HZ.out (by exact le_alloc (Nat.le_refl _) _) ?_; intro v5 W5 hown5 hbel5; have hb45 : Below W4.heap.size W4 W5 := bel_call (by exact (Below.refl W4.heap.size W4).alloc (Nat.le_refl _) (.cells #[.int .u8 (L : Int)] 5)) hbel5 (by exact le_alloc (Nat.le_refl _) _); have HB45 := Lib.hid hb45; obtain ⟨A5, c5, e5, h51, h52, h53⟩ := hown5.form; rw [HFL.out] at e5 h51; subst e5; have HR5 := Lib.hid h53; clear hown5 hbel5 hb45 h53)
      have HBW5 := Lib.hid (HB4.out.trans (HB45.out.mono hsz4))
      have HX5 := Lib.hid ((HR4.out.below HB45.out (Nat.le_refl _)).more HB45.out.size)
      refine (C2.out A5 c5 _ h51 (RA.out _ HBW5.out) HR5.out).mono ?_
      rintro e W6 ⟨⟨v6, rfl, ho6⟩, hb6⟩
      obtain ⟨A6, c6, e6, h61, h62, h63⟩ := ho6.form
      rw [HTL.out] at e6
      subst e6
      have HB6 := Lib.hid (bel_call HBW5.out hb6 HBW5.out.size)
      have HX6 := Lib.hid ((HX5.out.below hb6 (Nat.le_refl _)).more hb6.size)
      have HR6 := Lib.hid h63
      clear ho6 hb6 h63 h61 h62
      go_wp2_with fail
      refine (refSame_n A4 A6 R R c4 c6 32 32 _ HTL.out.symm HTL.out.symm rfl HX6.out HR6.out).mono ?_
      rintro e W7 ⟨rfl, rfl⟩
      go_wp2
      go_ret
      exact ⟨rfl, HB6.out⟩
end Go.Proofs.YtgabcbifefokkaaDoor
