
/- sha.turned: 64 rounds. -/
import Derived.Test.YtcfncbbdlbdbnaaDoorSha
import Derived.Deep.QuietTactic
import Derived.BigQuiet
import Derived.IntWalk
import Derived.Outline
import Derived.Deep.Draws
import Derived.Deep.MidRow
import Derived.Deep.WholeRow
namespace Go.Proofs.YtcfncbbdlbdbnaaDoor
open Go.RowKit

/-- the table of keys reads as it is laid -/
def Ks (w : World) : Prop := 0 < w.heap.size ∧ ∀ j, j < 64 → w.cell? ⟨0, j, none⟩ = some (wv (ksAt j))
theorem Ks.below {w w' : World} {B : Nat} (h : Ks w) (hb : Below B w w') (hB : 0 < B) : Ks w' :=
  ⟨Nat.lt_of_lt_of_le h.1 hb.size, fun j hj => (hb.cell (p := ⟨0, j, none⟩) hB).trans (h.2 j hj)⟩
theorem below_drewN {B : Nat} {a w : World} (h : Below B a w) (n : Nat) : Below B a (w.drewN n) := ⟨h.os, h.tape, h.output, h.size, h.block⟩

theorem quiet_left {P : Program} {f : FuncId} {args : Array Value} {w : World} {n : Nat} {v : Value}
    (h : Calls P f args (w.drewN n) fun e w' => e = .returned v ∧ w.drewN n = w') : Calls P f args (w.drewN n) fun e w'' => e = .returned v ∧ ∃ m, w'' = w.drewN m :=
  h.mono fun _ _ ⟨he, hm⟩ => ⟨he, n, hm.symm⟩
theorem quiet_add_left {P : Program} {f : FuncId} {args : Array Value} {w : World} {a n : Nat} {v : Value}
    (h : Calls P f args (w.drewN (a + n)) fun e w' => e = .returned v ∧ w.drewN (a + n) = w') :
    Calls P f args (w.drewN (a + n)) fun e w'' => e = .returned v ∧ ∃ m, w'' = w.drewN (a + m) :=
  h.mono fun _ _ ⟨he, hm⟩ => ⟨he, n, hm.symm⟩
theorem Below.setRow {B : Nat} {a w : World} (h : Below B a w) {g : Nat} (hg : B ≤ g) (cs : Array Value) : Below B a (w.setRow g cs) :=
  ⟨h.os, h.tape, h.output, by rw [size_setRow]; exact h.size, fun k hk => (setRow_other w g k cs (by omega)).trans (h.block k hk)⟩
theorem heap_drewN_at {w : World} {g : Nat} {x : Option Obj} (h : w.heap[g]? = x) (n : Nat) : (w.drewN n).heap[g]? = x := h
theorem below_at {B : Nat} {a w : World} (h : Below B a w) {w' : World} (e : w = w') : Below B a w' := e ▸ h
theorem int_eq {k : IntKind} {a b : Int} (h : a = b) : Value.int k a = Value.int k b := by rw [h]
theorem all8 (s : St) : s.cells.all (·.oneCell') = true := by simp [St.cells, Value.oneCell']
/-- a state is stored whole into a block of its own -/
theorem store8 {ops : Array Oper} {rest : List Oper} {o : Oper} {a : Act} {Q : Exit → Act → World → Prop} (W : World) (x y : Operand) (g : Nat) (s : St) (old : Array Value)
    (hg : W.heap[g]? = some (.cells old 76 (0, 0))) (hold : old.size = 8) (hgd : o.guard = none) (ho : o.op = .store 76 x y) (hx : a.eval x = .pointer (some ⟨g, 0, none⟩)) (hy : a.eval y = s.v)
    (h : wpList Tryd.prog ops Q rest (a.put o.dst undef) (W.setRow g s.cells)) : wpList Tryd.prog ops Q (o :: rest) a W :=
  wpList_store_row hgd 76 x y ho g s.cells hx hy 76 old hg (by kernel_rfl) hold (all8 s) h
/-- what is answered is a state in a block of its own -/
theorem ret8 {fn : Func} {p : Tmp} (h : fn.results = #[.cell p 76]) (tmps : Array Value) (W : World) (g : Nat) (s : St) (hp : tmps.getD p undef = .pointer (some ⟨g, 0, none⟩)) (hg : W.heap[g]? = some (.cells s.cells 76 (0, 0))) :
    (results fn tmps).run Tryd.prog W = .ok s.v W :=
  results_cell_row h tmps W g 76 s.cells (0, 0) _ hp hg Tryd.underlying76 rfl (by kernel_rfl)
theorem alloc3 (w : World) (A B C : Obj) : (((w.alloc A).alloc B).alloc C).heap[w.heap.size]? = some A ∧ (((w.alloc A).alloc B).alloc C).heap[w.heap.size + 1]? = some B ∧ (((w.alloc A).alloc B).alloc C).heap[w.heap.size + 1 + 1]? = some C
    ∧ (((w.alloc A).alloc B).alloc C).heap.size = w.heap.size + 1 + 1 + 1 ∧ Below w.heap.size w (((w.alloc A).alloc B).alloc C) := by
  have e1 : (w.alloc A).heap.size = w.heap.size + 1 := by rw [World.size_alloc]
  have e2 : ((w.alloc A).alloc B).heap.size = w.heap.size + 1 + 1 := by rw [World.size_alloc, e1]
  refine ⟨?_, ?_, ?_, by rw [World.size_alloc, e2], ((((Below.refl _ _).alloc (Nat.le_refl _) _).alloc (by omega) _).alloc (by omega) _)⟩
  · rw [heap_alloc_old (h := by omega), heap_alloc_old (h := by omega), heap_alloc_new]
  · rw [heap_alloc_old (h := by omega), ← e1, heap_alloc_new]
  · rw [← e2, heap_alloc_new]

theorem st_get (s : St) : s.v = .agg #[wv s.a, wv s.b, wv s.c, wv s.d, wv s.e, wv s.f, wv s.g, wv s.h] := rfl
theorem wv_of {_s : St} {x : Value} (y : UInt32) (h : x = wv y) : x = wv y := h

set_option maxRecDepth 100000 in
set_option maxHeartbeats 1000000 in
theorem turned_any (s : St) (M : Array Value) (ms : Nat → UInt32) (hM : M.size = 64) (hm : ∀ j, j < 64 → M[j]? = some (wv (ms j))) (w : World) (hk : Ks w) :
    Calls Tryd.prog 60 #[s.v, .agg M] w fun e w' => e = .returned (rnds ms s 64).v ∧ Below w.heap.size w w' := by
  have HM := Lib.hid hm
  have HMs := Lib.hid hM
  have HK := Lib.hid hk
  clear hm hM hk
  generalize hs : s = s0
  have HS := Lib.hid hs
  obtain ⟨sa, sb, sc, sd, se, sf, sg, sh⟩ := s0
  clear hs
  show Calls Tryd.prog 60 #[.agg #[wv sa, wv sb, wv sc, wv sd, wv se, wv sf, wv sg, wv sh], .agg M] w _
  go_enter Tryd.func60, Tryd.ntmps60
  go_wp2
  go_quiet (fail)
  obtain ⟨q1, q2, q3, q4, q5⟩ := alloc3 w (.cells #[wv sa, wv sb, wv sc, wv sd, wv se, wv sf, wv sg, wv sh] 76) (.cells M 95) (.cells #[.int .u32 0, .int .u32 0, .int .u32 0, .int .u32 0, .int .u32 0, .int .u32 0, .int .u32 0, .int .u32 0] 76)
  generalize ((w.alloc (.cells #[wv sa, wv sb, wv sc, wv sd, wv se, wv sf, wv sg, wv sh] 76)).alloc (.cells M 95)).alloc (.cells #[.int .u32 0, .int .u32 0, .int .u32 0, .int .u32 0, .int .u32 0, .int .u32 0, .int .u32 0, .int .u32 0] 76) = W3 at *
  have hc : ∀ j, j < 64 → W3.cell? ⟨w.heap.size + 1, j, none⟩ = some (wv (ms j)) := fun j hj => (cell_of_row _ _ _ _ _ _ q2).trans (HM.out j hj)
  have hk := HK.out.below q5 HK.out.1
  have HC := Lib.hid hc
  have HK3 := Lib.hid hk.2
  have HQ3 := Lib.hid q3
  have HQ4 := Lib.hid q4
  have HQ5 := Lib.hid q5
  clear hc hk q1 q2 q3 q4 q5 HM HMs HK
  go_wp2
  go_loopw [5, 6, 7, 8, 9, 10, 11, 12, 34] (fun xa xb xc xd xe xf xg xh i wr => ∃ (k : Nat) (ta tb tc td te tf tg th : UInt32) (n : Nat), k ≤ 64 ∧ i = .int .i64 k ∧ xa = wv ta ∧ xb = wv tb ∧ xc = wv tc ∧ xd = wv td ∧ xe = wv te ∧ xf = wv tf ∧ xg = wv tg ∧ xh = wv th ∧ Hid (rnds ms s k = ⟨ta, tb, tc, td, te, tf, tg, th⟩) ∧ wr = W3.drewN n) (fun _ _ _ _ _ _ _ _ i _ => 64 - (intOf i).toNat)
  case atStart => exact ⟨0, sa, sb, sc, sd, se, sf, sg, sh, _, by omega, rfl, rfl, rfl, rfl, rfl, rfl, rfl, rfl, rfl, Lib.hid HS.out, rfl⟩
  case round =>
    obtain ⟨k, ta, tb, tc, td, te, tf, tg, th, n, hk, rfl, rfl, rfl, rfl, rfl, rfl, rfl, rfl, rfl, HR, rfl⟩ := hrel
    by_cases hlt : k < 64
    · have c1 := HC.out k hlt
      have c2 := HK3.out k hlt
      have HX := Lib.hid (show rnds ms s (k + 1) = rnd ⟨ta, tb, tc, td, te, tf, tg, th⟩ (ksAt k) (ms k) by rw [rnds, HR.out])
      generalize ksAt k = kk at *
      generalize ms k = mm at *
      obtain ⟨CH, hCH⟩ : ∃ x, x = chF te tf tg := ⟨_, rfl⟩
      obtain ⟨MJ, hMJ⟩ : ∃ x, x = majF ta tb tc := ⟨_, rfl⟩
      obtain ⟨G1, hG1⟩ : ∃ x, x = gr1 te := ⟨_, rfl⟩
      obtain ⟨G0, hG0⟩ : ∃ x, x = gr0 ta := ⟨_, rfl⟩
      have b1 : bits BinOp.xor IntKind.u32 (bits BinOp.and IntKind.u32 (te.toNat : Int) tf.toNat) (bits BinOp.and IntKind.u32 (bits BinOp.xor IntKind.u32 IntKind.u32.max te.toNat) tg.toNat) = CH.toNat := by
        rw [w_and, w_not', w_and, w_xor, hCH]; rfl
      have b2 : bits BinOp.xor IntKind.u32 (bits BinOp.xor IntKind.u32 (bits BinOp.and IntKind.u32 (ta.toNat : Int) tb.toNat) (bits BinOp.and IntKind.u32 (ta.toNat : Int) tc.toNat)) (bits BinOp.and IntKind.u32 (tb.toNat : Int) tc.toNat) = MJ.toNat := by
        rw [w_and, w_and, w_and, w_xor, w_xor, hMJ]; rfl
      have k1 := Lib.hid (fun W => great1_any te W)
      have k0 := Lib.hid (fun W => great0_any ta W)
      rw [← hG1] at k1
      rw [← hG0] at k0
      obtain ⟨T1, hT1⟩ : ∃ x, x = th + G1 + CH + kk + mm := ⟨_, rfl⟩
      obtain ⟨T2, hT2⟩ : ∃ x, x = G0 + MJ := ⟨_, rfl⟩
      have hX : rnd ⟨ta, tb, tc, td, te, tf, tg, th⟩ kk mm = ⟨T1 + T2, ta, tb, tc, td + T1, te, tf, tg⟩ := by
        subst hT1 hT2 hG0 hG1 hCH hMJ; rfl
      rw [hX] at HX
      have b3 : IntKind.u32.wrap (IntKind.u32.wrap (IntKind.u32.wrap (IntKind.u32.wrap ((th.toNat : Int) + G1.toNat) + CH.toNat) + kk.toNat) + mm.toNat) = T1.toNat := by
        rw [w_add, w_add, w_add, w_add, hT1]
      have b4 : ((G0.toNat : Int) + MJ.toNat) % 4294967296 = T2.toNat := by rw [w_add', hT2]
      have b5 : ((td.toNat : Int) + T1.toNat) % 4294967296 = (td + T1).toNat := w_add' _ _
      have b6 : ((T1.toNat : Int) + T2.toNat) % 4294967296 = (T1 + T2).toNat := w_add' _ _
      have B3 := Lib.hid b3
      have B3' := Lib.hid (show ((th.toNat : Int) + G1.toNat + CH.toNat + kk.toNat + mm.toNat) % 4294967296 = T1.toNat by
        rw [hT1]; simp only [UInt32.toNat_add]; omega)
      have B4 := Lib.hid b4
      have B5 := Lib.hid b5
      have B6 := Lib.hid b6
      clear hCH hMJ hG1 hG0 hT1 hT2 hX b3 b4 b5 b6
      go_wp2
      clear b1 b2
      have b3 := B3.out
      go_quiet ((go_at_call 62; exact quiet_add_left (k1.out _)))
      clear b3
      go_wp2_with fail
      refine (k0.out _).mono ?_
      rintro e W1 ⟨rfl, rfl⟩
      go_wp2
      go_roundw
      case rel => exact ⟨k + 1, T1 + T2, ta, tb, tc, td + T1, te, tf, tg, _, by omega, by go_num, int_eq (by rw [B3'.out, B4.out, B6.out]), rfl, rfl, rfl, int_eq (by rw [B3'.out, B5.out]), rfl, rfl, rfl, Lib.hid HX.out, rfl⟩
      case measure => simp [intOf]; omega
    · have hk64 : k = 64 := by omega
      have HR2 := HR.out
      rw [hk64] at HR2
      have HR3 := Lib.hid HR2
      clear hk64 HR2 HR
      go_wp2_with (refine store8 (W3.drewN n) (.tmp 4) (.tmp 95) (w.heap.size + 1 + 1) ⟨ta, tb, tc, td, te, tf, tg, th⟩ _ (heap_drewN_at HQ3.out n) rfl rfl rfl rfl rfl ?_)
      (try simp only [Exit.inBlock, Exit.then])
      refine bodyPost_ret (ret8 rfl _ _ _ ⟨ta, tb, tc, td, te, tf, tg, th⟩ rfl (setRow_heap _ _ _ _ _ _ (heap_drewN_at HQ3.out n))) rfl ?_
      exact ⟨by rw [← HS.out, HR3.out], Below.setRow (below_drewN HQ5.out _) (by omega) _⟩
end Go.Proofs.YtcfncbbdlbdbnaaDoor
