
/- The document's step: the words behind a block that stands at a place. -/
import Derived.Test.YtfppcmhhbheaiaaDoorJ15
import Derived.BigRegion
import Derived.Test.YtfppcmhhbheaiaaDoorJ11
import Derived.Test.YtfppcmhhbheaiaaDoorJ02
import Derived.Deep.RegionLaw
import Derived.Deep.DeepMust
namespace Go.Proofs.YtfppcmhhbheaiaaDoor
open Go.RowKit

set_option maxRecDepth 100000 in
theorem store8s {ops : Array Oper} {rest : List Oper} {o : Oper} {a : Act} {Q : Exit → Act → World → Prop} (W : World) (x y : Operand) (g : Nat) (s : St) (old : Array Value)
    (hg : W.heap[g]? = some (.cells old 63 (0, 0))) (hold : old.size = 8) (x0 x1 x2 x3 x4 x5 x6 x7 : Int) (hgd : o.guard = none) (ho : o.op = .store 63 x y) (hx : a.eval x = .pointer (some ⟨g, 0, none⟩))
    (hy : a.eval y = .agg #[.int .u32 x0, .int .u32 x1, .int .u32 x2, .int .u32 x3, .int .u32 x4, .int .u32 x5, .int .u32 x6, .int .u32 x7])
    (h0 : x0 = s.a.toNat) (h1 : x1 = s.b.toNat) (h2 : x2 = s.c.toNat) (h3 : x3 = s.d.toNat) (h4 : x4 = s.e.toNat) (h5 : x5 = s.f.toNat) (h6 : x6 = s.g.toNat) (h7 : x7 = s.h.toNat)
    (h : wpList Tryd.prog ops Q rest (a.put o.dst undef) (W.setRow g s.cells)) : wpList Tryd.prog ops Q (o :: rest) a W := by
  subst h0 h1 h2 h3 h4 h5 h6 h7
  exact store8 W x y g s old hg hold hgd ho hx hy h
set_option maxRecDepth 100000 in
set_option maxHeartbeats 4000000 in
theorem step_any (s : St) (A : Option Addr) (l : List UInt8) (n c p g : Nat) (w : World) (hn : n = l.length) (hl : l.length ≤ 1000000) (hp : p + 64 ≤ l.length) (hr : Rd w w.heap.size A l) (hk : KR w g) :
    Calls Tryd.prog 41 #[s.v, .slice A n c, .int .i64 (p : Int), .slice (some ⟨g, 0, none⟩) 64 64] w fun e w' => e = .returned (compress s ((l.drop p).take 64)).v ∧ Below w.heap.size w w' := by
  obtain ⟨b, o, rfl, hb, hcell⟩ := hr.getD (by omega)
  have hnl : p + 64 ≤ n := by omega
  have hn2 : n ≤ 1000000 := by omega
  have HC := Lib.hid (show ∀ j, j < 64 → w.cell? ⟨b, o + (p + j), none⟩ = some (.int .u8 ((((l.drop p).take 64).getD j 0).toNat : Int)) from fun j hj => by
    rw [hcell (p + j) (by omega)]
    simp only [List.getD_eq_getElem?_getD]
    rw [List.getElem?_take_of_lt hj, List.getElem?_drop])
  have HL := Lib.hid (show ((l.drop p).take 64).length = 64 by rw [List.length_take, List.length_drop]; omega)
  have HK := Lib.hid hk
  generalize (l.drop p).take 64 = L at *
  clear hcell hr hl hp hn hk
  show Calls Tryd.prog 41 #[.agg #[wv s.a, wv s.b, wv s.c, wv s.d, wv s.e, wv s.f, wv s.g, wv s.h], .slice (some ⟨b, o, none⟩) n c, .int .i64 (p : Int), .slice (some ⟨g, 0, none⟩) 64 64] w _
  have hmk : ∀ W, (Instr.makeSlice 72 (.int .i64 64) (.int .i64 64)).run Tryd.prog W = .ok (.slice (some ⟨W.heap.size, 0, none⟩) 64 64) (W.alloc (.cells (madeCells #[.int .u32 0] 64) 62)) := fun W =>
    run_make_row' 72 62 (.int .u32 0) 4 Tryd.underlying72 (by kernel_rfl) rfl .i64 .i64 64 (by omega) (by omega) W
  obtain ⟨C64, hC⟩ : ∃ C, C = madeCells #[Value.int .u32 0] 64 := ⟨_, rfl⟩
  rw [← hC] at hmk
  have HCC := Lib.hid hC
  clear hC
  go_enter Tryd.func41, Tryd.ntmps41
  go_wp2
  have q0 := alloc3 w (.cells s.cells 63) (.cells Z8 63) (.cells C64 62)
  change Code.wp _ _ _ _ (((w.alloc (.cells s.cells 63)).alloc (.cells Z8 63)).alloc (.cells C64 62))
  generalize ((w.alloc (.cells s.cells 63)).alloc (.cells Z8 63)).alloc (.cells C64 62) = w0 at *
  obtain ⟨q1, q2, q3, q4, q5⟩ := q0
  have hm0 : w0.rowIs (w.heap.size + 1 + 1) 62 64 (fun j => wv (mAt L 0 j)) := ⟨C64, q3, by rw [HCC.out, size_madeCells], fun i hi => by rw [HCC.out]; simp [madeCells, hi, Nat.mod_one, mAt_zero]⟩
  have Q1 := Lib.hid q1
  have Q2 := Lib.hid q2
  have Q5 := Lib.hid q5
  have HM0 := Lib.hid hm0
  clear q1 q2 q3 q4 q5 hm0
  go_loopw [10] (fun i wr => ∃ k : Nat, k ≤ 16 ∧ i = .int .i64 k ∧ wr.heap[w.heap.size]? = some (.cells s.cells 63 (0, 0)) ∧ wr.heap[w.heap.size + 1]? = some (.cells Z8 63 (0, 0)) ∧ wr.rowIs (w.heap.size + 1 + 1) 62 64 (fun j => wv (mAt L k j)) ∧ Below w.heap.size w wr) (fun i _ => 16 - (intOf i).toNat)
  case atStart => exact ⟨0, by omega, rfl, Q1.out, Q2.out, HM0.out, Q5.out⟩
  case round =>
    clear Q1 Q2 Q5 HM0
    obtain ⟨k, hk, rfl, hs, hz, hrow, hbel⟩ := hrel
    have HS := Lib.hid hs
    have HZ := Lib.hid hz
    have HR := Lib.hid hrow
    have HB := Lib.hid hbel
    clear hs hz hrow hbel
    by_cases hlt : k < 16
    · have c0 := (HB.out.cell (p := ⟨b, o + (p + (4 * k)), none⟩) hb).trans (HC.out (4 * k) (by omega))
      have c1 := (HB.out.cell (p := ⟨b, o + (p + (4 * k + 1)), none⟩) hb).trans (HC.out (4 * k + 1) (by omega))
      have c2 := (HB.out.cell (p := ⟨b, o + (p + (4 * k + 2)), none⟩) hb).trans (HC.out (4 * k + 2) (by omega))
      have c3 := (HB.out.cell (p := ⟨b, o + (p + (4 * k + 3)), none⟩) hb).trans (HC.out (4 * k + 3) (by omega))
      rw [show p + (4 * k + 1) = p + 4 * k + 1 by omega] at c1
      rw [show p + (4 * k + 2) = p + 4 * k + 2 by omega] at c2
      rw [show p + (4 * k + 3) = p + 4 * k + 3 by omega] at c3
      have d1 := HR.out.cell (i := k) (by omega)
      have d2 := HR.out.frozen k
      have HW := Lib.hid (show wordAt L k = word4 (L.getD (4 * k) 0) (L.getD (4 * k + 1) 0) (L.getD (4 * k + 2) 0) (L.getD (4 * k + 3) 0) from rfl)
      generalize L.getD (4 * k) 0 = x0 at *
      generalize L.getD (4 * k + 1) 0 = x1 at *
      generalize L.getD (4 * k + 2) 0 = x2 at *
      generalize L.getD (4 * k + 3) 0 = x3 at *
      have b0 := x0.toNat_lt
      have b1 := x1.toNat_lt
      have b2 := x2.toNat_lt
      have b3 := x3.toNat_lt
      go_wp2
      go_region
      go_wp2
      go_roundw
      case rel => exact ⟨k + 1, by omega, by go_num, (heap_setCell_other _ _ _ _ (by show w.heap.size ≠ w.heap.size + 1 + 1; omega)).trans HS.out, (heap_setCell_other _ _ _ _ (by show w.heap.size + 1 ≠ w.heap.size + 1 + 1; omega)).trans HZ.out, (((HR.out.set k _).congr (fun j hj => by
          rw [mAt_low _ _ _ hlt]
          split
          · rw [HW.out]; exact int_eq (word4_sum _ _ _ _)
          · rfl)).drew), (HB.out.setCell (by show w.heap.size ≤ w.heap.size + 1 + 1; omega) _).drew⟩
      case measure => simp [intOf]; omega
    · have hk16 : k = 16 := by omega
      rw [hk16] at HR
      clear hk16
      go_wp2
      go_loopw [12] (fun i wr => ∃ k : Nat, 16 ≤ k ∧ k ≤ 64 ∧ i = .int .i64 k ∧ wr.heap[w.heap.size]? = some (.cells s.cells 63 (0, 0)) ∧ wr.heap[w.heap.size + 1]? = some (.cells Z8 63 (0, 0)) ∧ wr.rowIs (w.heap.size + 1 + 1) 62 64 (fun j => wv (mAt L k j)) ∧ Below w.heap.size w wr) (fun i _ => 64 - (intOf i).toNat)
      case atStart => exact ⟨16, by omega, by omega, rfl, HS.out, HZ.out, HR.out, HB.out⟩
      case round =>
        clear HS HZ HR HB
        obtain ⟨k, hk1, hk2, rfl, hs, hz, hrow, hbel⟩ := hrel
        have HS := Lib.hid hs
        have HZ := Lib.hid hz
        have HR := Lib.hid hrow
        have HB := Lib.hid hbel
        clear hs hz hrow hbel
        by_cases hlt : k < 64
        · obtain ⟨x2, hx2⟩ : ∃ x, x = mAt L k (k - 2) := ⟨_, rfl⟩
          obtain ⟨x7, hx7⟩ : ∃ x, x = mAt L k (k - 7) := ⟨_, rfl⟩
          obtain ⟨x15, hx15⟩ : ∃ x, x = mAt L k (k - 15) := ⟨_, rfl⟩
          obtain ⟨x16, hx16⟩ : ∃ x, x = mAt L k (k - 16) := ⟨_, rfl⟩
          obtain ⟨s1, hs1⟩ : ∃ x, x = sm1 x2 := ⟨_, rfl⟩
          obtain ⟨s0, hs0⟩ : ∃ x, x = sm0 x15 := ⟨_, rfl⟩
          obtain ⟨X, hX⟩ : ∃ x, x = s1 + x7 + s0 + x16 := ⟨_, rfl⟩
          have HX := Lib.hid (show ∀ j, mAt L (k + 1) j = if j = k then X else mAt L k j by
            intro j
            rw [mAt_high _ _ _ (by omega), hX, hs1, hs0, hx2, hx7, hx15, hx16])
          have c2 := HR.out.cell (i := k - 2) (by omega)
          have c7 := HR.out.cell (i := k - 7) (by omega)
          have c15 := HR.out.cell (i := k - 15) (by omega)
          have c16 := HR.out.cell (i := k - 16) (by omega)
          have d1 := HR.out.cell (i := k) (by omega)
          have d2 := HR.out.frozen k
          simp only [← hx2, ← hx7, ← hx15, ← hx16] at c2 c7 c15 c16
          have b0 : bits BinOp.xor IntKind.u32 (bits BinOp.xor IntKind.u32 ((rotr x15 7).toNat : Int) (rotr x15 18).toNat) ((x15.toNat : Int) / 8) = s0.toNat := by
            rw [w_xor, show (x15.toNat : Int) / 8 = ((x15 >>> UInt32.ofNat 3).toNat : Int) from w_shr x15 3 (by decide), w_xor, hs0]; rfl
          have b1 : bits BinOp.xor IntKind.u32 (bits BinOp.xor IntKind.u32 ((rotr x2 17).toNat : Int) (rotr x2 19).toNat) ((x2.toNat : Int) / 1024) = s1.toNat := by
            rw [w_xor, show (x2.toNat : Int) / 1024 = ((x2 >>> UInt32.ofNat 10).toNat : Int) from w_shr x2 10 (by decide), w_xor, hs1]; rfl
          have E := Lib.hid (show ((s1.toNat : Int) + x7.toNat + s0.toNat + x16.toNat) % 4294967296 = X.toNat by rw [hX]; simp only [UInt32.toNat_add]; omega)
          clear hx2 hx7 hx15 hx16 hs1 hs0 hX
          go_wp2_with fail
          refine (turn_7 x15 _).mono ?_
          rintro e W1 ⟨rfl, rfl⟩
          go_wp2_with fail
          refine (turn_18 x15 _).mono ?_
          rintro e W1 ⟨rfl, rfl⟩
          go_wp2_with fail
          refine (turn_17 x2 _).mono ?_
          rintro e W1 ⟨rfl, rfl⟩
          go_wp2_with fail
          refine (turn_19 x2 _).mono ?_
          rintro e W1 ⟨rfl, rfl⟩
          go_wp2_with fail
          clear b0 b1
          go_region
          go_wp2
          go_roundw
          case rel => exact ⟨k + 1, by omega, by omega, by go_num, (heap_setCell_other _ _ _ _ (by show w.heap.size ≠ w.heap.size + 1 + 1; omega)).trans HS.out, (heap_setCell_other _ _ _ _ (by show w.heap.size + 1 ≠ w.heap.size + 1 + 1; omega)).trans HZ.out, ((HR.out.set k _).congr (fun j hj => by
            rw [HX.out]
            split
            · exact int_eq E.out
            · rfl)).drew, (HB.out.setCell (by show w.heap.size ≤ w.heap.size + 1 + 1; omega) _).drew⟩
          case measure => simp [intOf]; omega
        · have hk64 : k = 64 := by omega
          rw [hk64] at HR
          clear hk64
          obtain ⟨e0, e1, e2, e3, e4, e5, e6, e7⟩ := cells8 HS.out
          have HM := Lib.hid (fun j hj => HR.out.cell (i := j) hj)
          have HKK := Lib.hid (HK.out.below HB.out (Nat.le_refl _)).2
          obtain ⟨W3, hW3⟩ : ∃ W3, W3 = wr := ⟨_, rfl⟩
          rw [← hW3] at HM HKK HS HZ HB HR e0 e1 e2 e3 e4 e5 e6 e7
          rw [← hW3]
          clear hW3 HR
          go_wp2
          go_loopw [17, 18, 19, 20, 21, 22, 23, 24, 25] (fun xa xb xc xd xe xf xg xh i wr => ∃ (k : Nat) (ta tb tc td te tf tg th : UInt32) (n : Nat), k ≤ 64 ∧ i = .int .i64 k ∧ xa = wv ta ∧ xb = wv tb ∧ xc = wv tc ∧ xd = wv td ∧ xe = wv te ∧ xf = wv tf ∧ xg = wv tg ∧ xh = wv th ∧ Hid (rnds (mAt L 64) s k = ⟨ta, tb, tc, td, te, tf, tg, th⟩) ∧ wr = W3.drewN n) (fun _ _ _ _ _ _ _ _ i _ => 64 - (intOf i).toNat)
          case atStart => exact ⟨0, s.a, s.b, s.c, s.d, s.e, s.f, s.g, s.h, 0, by omega, rfl, rfl, rfl, rfl, rfl, rfl, rfl, rfl, rfl, Lib.hid rfl, rfl⟩
          case round =>
            clear e0 e1 e2 e3 e4 e5 e6 e7
            obtain ⟨k, ta, tb, tc, td, te, tf, tg, th, nd, hk, rfl, rfl, rfl, rfl, rfl, rfl, rfl, rfl, rfl, HRn, rfl⟩ := hrel
            by_cases hlt : k < 64
            · have c1 := HM.out k hlt
              have c2 := HKK.out k hlt
              have HX := Lib.hid (show rnds (mAt L 64) s (k + 1) = rnd ⟨ta, tb, tc, td, te, tf, tg, th⟩ (ksAt k) (mAt L 64 k) by rw [rnds, HRn.out])
              generalize ksAt k = kk at *
              generalize mAt L 64 k = mm at *
              obtain ⟨CH, hCH⟩ : ∃ x, x = chF te tf tg := ⟨_, rfl⟩
              obtain ⟨MJ, hMJ⟩ : ∃ x, x = majF ta tb tc := ⟨_, rfl⟩
              obtain ⟨G1, hG1⟩ : ∃ x, x = gr1 te := ⟨_, rfl⟩
              obtain ⟨G0, hG0⟩ : ∃ x, x = gr0 ta := ⟨_, rfl⟩
              have b1 : bits BinOp.xor IntKind.u32 (bits BinOp.and IntKind.u32 (te.toNat : Int) tf.toNat) (bits BinOp.and IntKind.u32 (bits BinOp.xor IntKind.u32 IntKind.u32.max te.toNat) tg.toNat) = CH.toNat := by
                rw [w_and, w_not', w_and, w_xor, hCH]; rfl
              have b2 : bits BinOp.xor IntKind.u32 (bits BinOp.xor IntKind.u32 (bits BinOp.and IntKind.u32 (ta.toNat : Int) tb.toNat) (bits BinOp.and IntKind.u32 (ta.toNat : Int) tc.toNat)) (bits BinOp.and IntKind.u32 (tb.toNat : Int) tc.toNat) = MJ.toNat := by
                rw [w_and, w_and, w_and, w_xor, w_xor, hMJ]; rfl
              have b7 : bits BinOp.xor IntKind.u32 (bits BinOp.xor IntKind.u32 ((rotr te 6).toNat : Int) (rotr te 11).toNat) (rotr te 25).toNat = G1.toNat := by rw [w_xor, w_xor, hG1]; rfl
              have b8 : bits BinOp.xor IntKind.u32 (bits BinOp.xor IntKind.u32 ((rotr ta 2).toNat : Int) (rotr ta 13).toNat) (rotr ta 22).toNat = G0.toNat := by rw [w_xor, w_xor, hG0]; rfl
              obtain ⟨T1, hT1⟩ : ∃ x, x = th + G1 + CH + kk + mm := ⟨_, rfl⟩
              obtain ⟨T2, hT2⟩ : ∃ x, x = G0 + MJ := ⟨_, rfl⟩
              have hX : rnd ⟨ta, tb, tc, td, te, tf, tg, th⟩ kk mm = ⟨T1 + T2, ta, tb, tc, td + T1, te, tf, tg⟩ := by
                subst hT1 hT2 hG0 hG1 hCH hMJ; rfl
              rw [hX] at HX
              have b3 : IntKind.u32.wrap (IntKind.u32.wrap (IntKind.u32.wrap (IntKind.u32.wrap ((th.toNat : Int) + G1.toNat) + CH.toNat) + kk.toNat) + mm.toNat) = T1.toNat := by
                rw [w_add, w_add, w_add, w_add, hT1]
              have b4 : ((G0.toNat : Int) + MJ.toNat) % 4294967296 = T2.toNat := by rw [w_add', hT2]
              have b5 : ((td.toNat : Int) + T1.toNat) % 4294967296 = (td + T1).toNat := w_add' _ _
              have b6 : ((T1.toNat : Int) + T2.toNat) % 4294967296 = (T1 + T2).toNat := w_add' _ _
              have B3' := Lib.hid (show ((th.toNat : Int) + G1.toNat + CH.toNat + kk.toNat + mm.toNat) % 4294967296 = T1.toNat by
                rw [hT1]; simp only [UInt32.toNat_add]; omega)
              have B3 := Lib.hid b3
              have B4 := Lib.hid b4
              have B5 := Lib.hid b5
              have B6 := Lib.hid b6
              have B7 := Lib.hid b7
              have B8 := Lib.hid b8
              clear hCH hMJ hG1 hG0 hT1 hT2 hX b3 b4 b5 b6 b7 b8
              go_wp2
              clear b1 b2
              have b3 := B3.out
              have b7 := B7.out
              go_quiet ((first
                | (go_at_call_of 45 (Value.int IntKind.u32 6); exact quiet_add_left (turn_6 _ _))
                | (go_at_call_of 45 (Value.int IntKind.u32 11); exact quiet_add_left (turn_11 _ _))
                | (go_at_call_of 45 (Value.int IntKind.u32 25); exact quiet_add_left (turn_25 _ _))))
              clear b3 b7
              have b8 := B8.out
              go_wp2_with fail
              refine (turn_2 ta _).mono ?_
              rintro e W1 ⟨rfl, rfl⟩
              go_wp2_with fail
              refine (turn_13 ta _).mono ?_
              rintro e W1 ⟨rfl, rfl⟩
              go_wp2_with fail
              refine (turn_22 ta _).mono ?_
              rintro e W1 ⟨rfl, rfl⟩
              go_wp2_with fail
              go_roundw
              case rel => exact ⟨k + 1, T1 + T2, ta, tb, tc, td + T1, te, tf, tg, _, by omega, by go_num, int_eq (by rw [B3'.out, B4.out, B6.out]), rfl, rfl, rfl, int_eq (by rw [B3'.out, B5.out]), rfl, rfl, rfl, Lib.hid HX.out, rfl⟩
              case measure => simp [intOf]; omega
            · have hk64 : k = 64 := by omega
              rw [hk64] at HRn
              have HE := Lib.hid (show compress s L = s.add ⟨ta, tb, tc, td, te, tf, tg, th⟩ by unfold compress; rw [HRn.out])
              obtain ⟨e0, e1, e2, e3, e4, e5, e6, e7⟩ := cells8 HS.out
              have f0 := w_add' s.a ta
              have f1 := w_add' s.b tb
              have f2 := w_add' s.c tc
              have f3 := w_add' s.d td
              have f4 := w_add' s.e te
              have f5 := w_add' s.f tf
              have f6 := w_add' s.g tg
              have f7 := w_add' s.h th
              clear hk64 HRn
              have F0 := Lib.hid f0
              have F1 := Lib.hid f1
              have F2 := Lib.hid f2
              have F3 := Lib.hid f3
              have F4 := Lib.hid f4
              have F5 := Lib.hid f5
              have F6 := Lib.hid f6
              have F7 := Lib.hid f7
              clear f0 f1 f2 f3 f4 f5 f6 f7
              go_wp2_with (refine store8s (W3.drewN nd) (.tmp 8) (.tmp 234) (w.heap.size + 1) (s.add ⟨ta, tb, tc, td, te, tf, tg, th⟩) _ (heap_drewN_at HZ.out nd) rfl _ _ _ _ _ _ _ _ rfl rfl rfl rfl F0.out F1.out F2.out F3.out F4.out F5.out F6.out F7.out ?_)
              (try simp only [Exit.inBlock, Exit.then])
              refine bodyPost_ret (ret8 rfl _ _ _ (s.add ⟨ta, tb, tc, td, te, tf, tg, th⟩) rfl (setRow_heap _ _ _ _ _ _ (heap_drewN_at HZ.out nd))) rfl ?_
              exact ⟨by rw [HE.out], Below.setRow (below_drewN HB.out _) (by omega) _⟩
end Go.Proofs.YtfppcmhhbheaiaaDoor
/- The document's signs and sameness: stage 1's texts hold them. -/

namespace Go.Proofs.YtfppcmhhbheaiaaDoor
open Go.RowKit

end Go.Proofs.YtfppcmhhbheaiaaDoor
/- The document's Pad, Block. -/

namespace Go.Proofs.YtfppcmhhbheaiaaDoor
open Go.RowKit

set_option maxRecDepth 100000 in
theorem Ow.fresh {w : World} {base : Nat} {v : Value} {l : List UInt8} (h : Ow w base v l) : ∃ A c, v = .slice A l.length c ∧ l.length ≤ c ∧ c ≤ 9223372036854775807 ∧ Rd w w.heap.size A l ∧ (∀ p, A = some p → base ≤ p.block ∧ p.block < w.heap.size ∧ p = ⟨p.block, 0, none⟩) := by
  have hs := h.sl
  rcases h.2 with ⟨rfl, h0⟩ | ⟨g, cap, cur, rfl, hb, hg, hn, hcap, hsz, htake⟩
  · obtain rfl : l = [] := List.eq_nil_of_length_eq_zero h0
    exact ⟨none, 0, rfl, by simp, by omega, Rd.nil, fun p hp => by cases hp⟩
  · obtain ⟨A, c, e, h1, h2, h3⟩ := hs
    cases e
    exact ⟨_, _, rfl, h1, h2, h3, fun p hp => by cases hp; exact ⟨hb, (Array.getElem?_eq_some_iff.1 hg).1, rfl⟩⟩
set_option maxRecDepth 100000 in
theorem padL_mod {r r' : Nat} (n : Nat) (h : r % 64 = r' % 64) : padL r n = padL r' n := by
  unfold padL
  have e : (r + 9) % 64 = (r' + 9) % 64 := by omega
  rw [e]
set_option maxRecDepth 100000 in
theorem be8_snoc (n k : Nat) (h : k < 8) : (be8 n).take (k + 1) = (be8 n).take k ++ [UInt8.ofNat (n / 2 ^ (8 * (7 - k)))] := by
  have hl : (be8 n).length = 8 := by simp [be8]
  rw [List.take_succ_eq_append_getElem (by omega)]
  simp [be8]
/-- what stands there behind j noughts and k of the eight bytes -/
def padP (j n k : Nat) : List UInt8 := 128 :: (List.replicate j 0 ++ (be8 (8 * n)).take k)
set_option maxRecDepth 100000 in
theorem padP_length (j n k : Nat) (h : k ≤ 8) : (padP j n k).length = 1 + j + k := by
  have hl : (be8 (8 * n)).length = 8 := by simp [be8]
  unfold padP
  rw [List.length_cons, List.length_append, List.length_replicate, List.length_take, hl]
  omega
set_option maxRecDepth 100000 in
theorem padP_zero (j n : Nat) : padP j n 0 ++ [0] = padP (j + 1) n 0 := by
  unfold padP
  rw [List.take_zero, List.append_nil, List.append_nil, List.cons_append, ← List.replicate_succ']
set_option maxRecDepth 100000 in
theorem padP_snoc (j n k : Nat) (h : k < 8) : padP j n k ++ [UInt8.ofNat (8 * n / 2 ^ (8 * (7 - k)))] = padP j n (k + 1) := by
  unfold padP
  rw [be8_snoc _ _ h, List.cons_append, List.append_assoc]
set_option maxRecDepth 100000 in
theorem padP_end (n : Nat) : padP (padZ n) n 8 = padL n n := by
  unfold padP padL padZ
  rw [List.take_of_length_le (by simp [be8])]

set_option maxRecDepth 100000 in
set_option maxHeartbeats 1000000 in
theorem pad_any (n : Nat) (w : World) (hn : n ≤ 1125899906842624) :
    Calls Tryd.prog 39 #[.int .i64 (n : Int)] w fun e w' => Ans1 w.heap.size w' e (padL n n) (padL n n).length ∧ Below w.heap.size w w' := by
  have h0 := Ow.made1 w (base := w.heap.size) (Nat.le_refl _) 128
  have hb0 : Below w.heap.size w (w.alloc (.cells #[.int .u8 ((128 : UInt8).toNat : Int)] 5)) := (Below.refl _ _).alloc (Nat.le_refl _) _
  have H0 := Lib.hid h0
  have HB0 := Lib.hid hb0
  clear h0 hb0
  go_enter Tryd.func39, Tryd.ntmps39
  go_wp2
  go_loopw [3] (fun v wr => ∃ j : Nat, j ≤ padZ n ∧ Ow wr w.heap.size v (padP j n 0) ∧ Below w.heap.size w wr) (fun v _ => match v with | .slice _ m _ => 100 - m | _ => 0)
  case atStart => exact ⟨0, by omega, H0.out, HB0.out⟩
  case round =>
    obtain ⟨j, hj, hown, hbel⟩ := hrel
    clear H0 HB0
    have hz : padZ n < 64 := by unfold padZ; omega
    obtain ⟨A, c, rfl, hc1, hc2, hrd⟩ := hown.form
    have hlen := padP_length j n 0 (by omega)
    have HO := Lib.hid hown
    have HB := Lib.hid hbel
    have hsz := HB.out.size
    obtain ⟨m, hm⟩ : ∃ m, m = (padP j n 0).length := ⟨_, rfl⟩
    rw [← hm] at HO hc1 ⊢
    rw [← hm] at hlen
    have HM := Lib.hid hm
    have HL := Lib.hid hlen
    have hm64 : m ≤ 64 := by omega
    clear hown hbel hrd hm
    by_cases hlt : j < padZ n
    · have hne : (((n : Int) + (m : Int) + 8) % 64 != 0) = true := by
        unfold padZ at hlt; simp; omega
      have HN := Lib.hid (padP_zero j n)
      have HLt := Lib.hid hlt
      clear hlen hlt hj hz
      go_wp2_with (at_builtin; (refine wpList_app rfl _ (.tmp 14) (.tmp 15) rfl w.heap.size _ _ [0] rfl (by exact HO.out.alloc _) ⟨_, 0, none⟩ 1 _ rfl rfl (by exact news1 _ 0 (by omega) (by omega)) (by rw [← HM.out]; simp only [List.length_cons, List.length_nil]; omega) (by exact le_alloc hsz _) ?_); intro v2 w2 hown2 hgrow2; have HB2 := Lib.hid (Ow.below (w0 := w) (by exact HO.out.alloc _) (by exact HB.out.alloc hsz _) hgrow2 (by exact le_alloc hsz _)); rw [HN.out] at hown2; have HW2 := Lib.hid hown2; clear hgrow2 hown2)
      go_roundw
      case rel => exact ⟨j + 1, HLt.out, HW2.out, HB2.out⟩
      case measure =>
        obtain ⟨A2, c2, rfl, -, -, -⟩ := HW2.out.form
        have h1 := padP_length (j + 1) n 0 (by omega)
        have h2 := HL.out
        show 100 - (padP (j + 1) n 0).length < 100 - m
        omega
    · have hj2 : j = padZ n := by omega
      have hne : (((n : Int) + (m : Int) + 8) % 64 != 0) = false := by
        unfold padZ at hj2; simp; omega
      rw [hj2] at HO
      clear hlt hj hlen hj2 HM HL
      go_wp2
      go_loopw [3, 5] (fun v i wr => ∃ (k : Nat) (q : Int), k ≤ 8 ∧ i = .int .i64 q ∧ Hid (q = 56 - 8 * (k : Int)) ∧ -8 ≤ q ∧ q ≤ 56 ∧ Ow wr w.heap.size v (padP (padZ n) n k) ∧ Below w.heap.size w wr) (fun _ i _ => (intOf i + 8).toNat)
      case atStart => exact ⟨0, 56, by omega, rfl, Lib.hid (by omega), by omega, by omega, HO.out, HB.out⟩
      case round =>
        clear HO HB hc1 hc2 hsz hne hm64
        obtain ⟨k, q, hk, rfl, hq, hq1, hq2, hown, hbel⟩ := hrel
        have HO := Lib.hid hown
        have HB := Lib.hid hbel
        have hsz := HB.out.size
        clear hown hbel
        by_cases hlt : 0 ≤ q
        · obtain ⟨q, rfl⟩ := Int.eq_ofNat_of_zero_le hlt
          have hk8 : k < 8 := by have := hq.out; omega
          have HN := Lib.hid (padP_snoc (padZ n) n k hk8)
          have HLen := Lib.hid (padP_length (padZ n) n k hk)
          obtain ⟨X, hX⟩ : ∃ X : Nat, X = 8 * n / 2 ^ q := ⟨_, rfl⟩
          have HX := Lib.hid (show 8 * n / 2 ^ (8 * (7 - k)) = X by rw [hX]; congr 2; have := hq.out; omega)
          have hXi : (8 * (n : Int)) / 2 ^ q = (X : Int) := by rw [hX, Int.natCast_ediv, Int.natCast_mul, Int.natCast_pow]; rfl
          rw [HX.out] at HN
          have HX8 := Lib.hid (show UInt8.ofNat ((X : Int) % 256).toNat = UInt8.ofNat X by
            apply UInt8.toNat_inj.1
            rw [UInt8.toNat_ofNat', UInt8.toNat_ofNat']
            omega)
          have hb1 : 0 ≤ (X : Int) % 256 := by omega
          have hb2 : (X : Int) % 256 < 256 := by omega
          have hz : padZ n < 64 := by unfold padZ; omega
          have HZ := Lib.hid hz
          clear hX hz
          go_wp2_with (at_builtin; (refine wpList_app rfl _ (.tmp 23) (.tmp 29) rfl w.heap.size _ _ [UInt8.ofNat ((X : Int) % 256).toNat] rfl (by exact HO.out.alloc _) ⟨_, 0, none⟩ 1 _ rfl rfl (by exact news1 _ _ hb1 hb2) (by rw [HLen.out]; have := HZ.out; simp only [List.length_cons, List.length_nil]; omega) (by exact le_alloc hsz _) ?_); intro v2 w2 hown2 hgrow2; have HB2 := Lib.hid (Ow.below (w0 := w) (by exact HO.out.alloc _) (by exact HB.out.alloc hsz _) hgrow2 (by exact le_alloc hsz _)); rw [HX8.out, HN.out] at hown2; have HW2 := Lib.hid hown2; clear hgrow2 hown2)
          go_roundw
          case rel => exact ⟨k + 1, (q : Int) - 8, by omega, rfl, Lib.hid (by have := hq.out; omega), by omega, by omega, HW2.out, HB2.out⟩
          case measure => simp [intOf]; omega
        · have hk8 : k = 8 := by have := hq.out; omega
          rw [hk8, padP_end] at HO
          have hf := HO.out.fresh
          have HF := Lib.hid hf
          clear hf hk8
          go_wp2
          go_ret
          obtain ⟨A', c', e', h1, h2, h3, h4⟩ := HF.out
          exact ⟨⟨A', c', by rw [← e']; rfl, h1, h2, h3, fun p hp => ⟨(h4 p hp).1, (h4 p hp).2.1⟩⟩, HB.out⟩

set_option maxRecDepth 100000 in
theorem block_no (s : St) (A : Option Addr) (n c : Nat) (w : World) (hn : n ≠ 64) :
    Calls Tryd.prog 50 #[s.v, .slice A n c] w fun e w' => e = .returned (.tuple #[s.v, .int .i64 1]) ∧ Below w.heap.size w w' := by
  have hne : ((n : Int) != 64) = true := by simp; omega
  have q0 := alloc2 w (.cells s.cells 63) (.cells Z8 63)
  have hd : ∀ W', W' = (w.alloc (.cells s.cells 63)).alloc (.cells Z8 63) → W'.heap[w.heap.size]? = some (.cells s.cells 63 (0, 0)) ∧ W'.heap[w.heap.size + 1]? = some (.cells Z8 63 (0, 0)) ∧ Below w.heap.size w W' := by
    rintro W' rfl
    exact ⟨q0.1, q0.2.1, q0.2.2.2⟩
  obtain ⟨H1, H2, H3⟩ := hd _ rfl
  have G1 := Lib.hid H1
  have G2 := Lib.hid H2
  have G3 := Lib.hid H3
  clear hd q0 H1 H2 H3 hn
  show Calls Tryd.prog 50 #[.agg #[wv s.a, wv s.b, wv s.c, wv s.d, wv s.e, wv s.f, wv s.g, wv s.h], .slice A n c] w _
  go_enter Tryd.func50, Tryd.ntmps50
  go_wp2_with (first | (refine load8 ((w.alloc (.cells s.cells 63)).alloc (.cells Z8 63)) (.tmp 2) w.heap.size s G1.out rfl rfl rfl ?_) | (refine store8 ((w.alloc (.cells s.cells 63)).alloc (.cells Z8 63)) (.tmp 4) (.tmp 11) (w.heap.size + 1) s _ G2.out rfl rfl rfl rfl rfl ?_))
  (try simp only [Exit.inBlock, Exit.then])
  refine bodyPost_ret (ret8_2 rfl _ _ (w.heap.size + 1) s rfl (setRow_heap _ _ _ _ _ _ G2.out)) rfl ?_
  exact ⟨rfl, Below.setRow G3.out (Nat.le_succ _) _⟩

end Go.Proofs.YtfppcmhhbheaiaaDoor
