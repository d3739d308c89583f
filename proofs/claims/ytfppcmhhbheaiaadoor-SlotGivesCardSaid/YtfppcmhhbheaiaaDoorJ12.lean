
/- Appending to a slice that is full: the bytes lie in a new block. -/
import Derived.Test.YtfppcmhhbheaiaaDoorJ01
import Derived.Test.YtfppcmhhbheaiaaDoorJ05
import Derived.Deep.QuietTactic
import Derived.BigQuiet
import Derived.IntWalk
import Derived.Outline
import Derived.Deep.Draws
import Derived.Deep.MidRow
import Derived.Deep.WholeRow
import Derived.StillTailTactics
import Derived.BigRegion
namespace Go.Proofs.YtfppcmhhbheaiaaDoor
open Go.RowKit

set_option maxRecDepth 100000 in
theorem Ow.of_row {w : World} {base g n : Nat} {l : List UInt8} (hb : base ≤ g) (hl : l.length = n) (hn : n ≤ 1000000) (h : w.heap[g]? = some (.cells (cs l).toArray 5 (0, 0))) : Ow w base (.slice (some ⟨g, 0, none⟩) n n) l := by
  subst hl
  refine ⟨by simp [cs], .inr ⟨g, l.length, (cs l).toArray, rfl, hb, h, Nat.le_refl _, by unfold maxLen; omega, by simp [cs], ?_⟩⟩
  rw [List.take_of_length_le (by simp [cs])]
set_option maxRecDepth 100000 in
/-- appending to a slice that is full: the bytes lie in a new block -/
theorem run_appG (ty : TypeId) (w : World) (b : Addr) (l news : List UInt8) (A : Option Addr) (n m c B B' : Nat) (hn : n = l.length) (hm : m = news.length) (hl : Rd w B (some b) l) (hr : Rd w B' A news) (h0 : 0 < l.length) (h1 : 0 < news.length) (hlen : l.length + news.length ≤ 1000000) :
    ∃ v' w', (Builtin.append_ #[22, 22] ty #[.slice (some b) n n, .slice A m c]).run Tryd.prog w = .ok v' w' ∧ Ow w' w.heap.size v' (l ++ news) ∧ Below w.heap.size w w' := by
  subst hn hm
  obtain ⟨i0, hi, hz0, hz1, hz2⟩ := info_parts info5
  obtain ⟨b1, o1, e1, -, hc1⟩ := hl h0
  cases e1
  obtain ⟨b2, o2, rfl, -, hc2⟩ := hr h1
  have hold : ∀ j v, (cs l)[j]? = some v → w.cell? ((⟨b1, o1, none⟩ : Addr).add j) = some v := by
    intro j u hu
    have hj : j < l.length := by
      have := (List.getElem?_eq_some_iff.1 hu).1
      simpa [cs] using this
    rw [cs_get l j hj] at hu
    rw [Addr.add_lit, hc1 j hj]
    exact hu
  have hnew : ∀ j v, (cs news)[j]? = some v → w.cell? ((⟨b2, o2, none⟩ : Addr).add j) = some v := by
    intro j u hu
    have hj : j < news.length := by
      have := (List.getElem?_eq_some_iff.1 hu).1
      simpa [cs] using this
    rw [cs_get news j hj] at hu
    rw [Addr.add_lit, hc2 j hj]
    exact hu
  have hrun := run_append_grow (P := Tryd.prog) w 22 ty 5 i0 (.int .u8 0) Tryd.underlying22 hi hz0 ⟨b1, o1, none⟩ l.length l.length (cs l) (by simp [cs, hz1]) hold ⟨b2, o2, none⟩ news.length c (cs news) (by simp [cs, hz1]) hnew (by omega) (by omega) (by rw [hz2]; exact growslice_fits (by omega) (by omega))
  have hge := grownCap_ge w (l.length + news.length) l.length 5
  have hcm : grownCap w (l.length + news.length) l.length 5 ≤ maxLen := grownCap_le_maxLen w (l.length + news.length) l.length 5 (by unfold maxLen; omega)
  have hzc : (Value.int .u8 0).cells.size = 1 := rfl
  refine ⟨_, _, hrun, ⟨by simp [cs], .inr ⟨w.heap.size, _, _, by rw [List.length_append], Nat.le_refl _, heap_alloc_new w.drew _, by rw [List.length_append]; exact hge, hcm, ?_, ?_⟩⟩, (Below.refl _ _).drew.alloc (Nat.le_refl _) _⟩
  · simp only [Array.size_append, List.size_toArray, size_zeroCells, hzc, cs_length]
    omega
  · simp only [Array.toList_append, List.append_assoc]
    rw [← List.append_assoc, ← cs_append, show (l ++ news).length * 1 = (cs (l ++ news)).length by rw [cs_length, Nat.mul_one]]
    exact List.take_left
set_option maxRecDepth 100000 in
theorem wp_appG {o : Oper} {a : Act} {K : Act → World → Prop} {Q : Exit → Act → World → Prop} (w : World) (s x : Operand)
    (ho : o.op = .call { callee := .builtin .append, args := #[s, x], argTypes := #[22, 22] })
    (b : Addr) (l news : List UInt8) (A : Option Addr) (n m c B B' : Nat) (hs : a.eval s = .slice (some b) n n) (hx : a.eval x = .slice A m c) (hn : n = l.length) (hm : m = news.length) (hl : Rd w B (some b) l) (hr : Rd w B' A news) (h0 : 0 < l.length) (h1 : 0 < news.length) (hlen : l.length + news.length ≤ 1000000)
    (hK : ∀ v' w', Ow w' w.heap.size v' (l ++ news) → Below w.heap.size w w' → K (a.put o.dst v') w') : o.wp Tryd.prog a w K Q := by
  obtain ⟨v', w', hr, h2, h3⟩ := run_appG o.type w b l news A n m c B B' hn hm hl hr h0 h1 hlen
  unfold Oper.wp execOp
  simp only [ho, resolve, invoke, builtin, Sem.run_bind, Sem.run_pure, Result.andThen_ok, List.map_toArray, List.map_cons, List.map_nil, hs, hx, hr]
  exact hK v' w' h2 h3
set_option maxRecDepth 100000 in
theorem wpList_appG {ops : Array Oper} {rest : List Oper} {o : Oper} {a : Act} {Q : Exit → Act → World → Prop} (w : World) (hw : Region.wanted o (yielded ops a.tmps) = true) (s x : Operand)
    (ho : o.op = .call { callee := .builtin .append, args := #[s, x], argTypes := #[22, 22] })
    (b : Addr) (l news : List UInt8) (A : Option Addr) (n m c B B' : Nat) (hs : a.eval s = .slice (some b) n n) (hx : a.eval x = .slice A m c) (hn : n = l.length) (hm : m = news.length) (hl : Rd w B (some b) l) (hr : Rd w B' A news) (h0 : 0 < l.length) (h1 : 0 < news.length) (hlen : l.length + news.length ≤ 1000000)
    (hK : ∀ v' w', Ow w' w.heap.size v' (l ++ news) → Below w.heap.size w w' → wpList Tryd.prog ops Q rest (a.put o.dst v') w') : wpList Tryd.prog ops Q (o :: rest) a w :=
  BigFrame.wpList_want hw fun _ hK' => wp_appG w s x ho b l news A n m c B B' hs hx hn hm hl hr h0 h1 hlen fun v' w' h2 h3 => hK' _ _ (hK v' w' h2 h3)
end Go.Proofs.YtfppcmhhbheaiaaDoor
/- sha.turned: 64 rounds. -/

namespace Go.Proofs.YtfppcmhhbheaiaaDoor
open Go.RowKit

/-- the table of keys reads as it is laid -/
def Ks (w : World) : Prop := 0 < w.heap.size ∧ ∀ j, j < 64 → w.cell? ⟨0, j, none⟩ = some (wv (ksAt j))
set_option maxRecDepth 100000 in
theorem Ks.below {w w' : World} {B : Nat} (h : Ks w) (hb : Below B w w') (hB : 0 < B) : Ks w' :=
  ⟨Nat.lt_of_lt_of_le h.1 hb.size, fun j hj => (hb.cell (p := ⟨0, j, none⟩) hB).trans (h.2 j hj)⟩
set_option maxRecDepth 100000 in
theorem below_drewN {B : Nat} {a w : World} (h : Below B a w) (n : Nat) : Below B a (w.drewN n) := ⟨h.os, h.tape, h.output, h.size, h.block⟩

set_option maxRecDepth 100000 in
theorem quiet_left {P : Program} {f : FuncId} {args : Array Value} {w : World} {n : Nat} {v : Value}
    (h : Calls P f args (w.drewN n) fun e w' => e = .returned v ∧ w.drewN n = w') : Calls P f args (w.drewN n) fun e w'' => e = .returned v ∧ ∃ m, w'' = w.drewN m :=
  h.mono fun _ _ ⟨he, hm⟩ => ⟨he, n, hm.symm⟩
set_option maxRecDepth 100000 in
theorem quiet_add_left {P : Program} {f : FuncId} {args : Array Value} {w : World} {a n : Nat} {v : Value}
    (h : Calls P f args (w.drewN (a + n)) fun e w' => e = .returned v ∧ w.drewN (a + n) = w') :
    Calls P f args (w.drewN (a + n)) fun e w'' => e = .returned v ∧ ∃ m, w'' = w.drewN (a + m) :=
  h.mono fun _ _ ⟨he, hm⟩ => ⟨he, n, hm.symm⟩
set_option maxRecDepth 100000 in
theorem Below.setRow {B : Nat} {a w : World} (h : Below B a w) {g : Nat} (hg : B ≤ g) (cs : Array Value) : Below B a (w.setRow g cs) :=
  ⟨h.os, h.tape, h.output, by rw [size_setRow]; exact h.size, fun k hk => (setRow_other w g k cs (by omega)).trans (h.block k hk)⟩
set_option maxRecDepth 100000 in
theorem heap_drewN_at {w : World} {g : Nat} {x : Option Obj} (h : w.heap[g]? = x) (n : Nat) : (w.drewN n).heap[g]? = x := h
set_option maxRecDepth 100000 in
theorem below_at {B : Nat} {a w : World} (h : Below B a w) {w' : World} (e : w = w') : Below B a w' := e ▸ h
set_option maxRecDepth 100000 in
theorem int_eq {k : IntKind} {a b : Int} (h : a = b) : Value.int k a = Value.int k b := by rw [h]
set_option maxRecDepth 100000 in
theorem all8 (s : St) : s.cells.all (·.oneCell') = true := by simp [St.cells, Value.oneCell']
set_option maxRecDepth 100000 in
/-- a state is stored whole into a block of its own -/
theorem store8 {ops : Array Oper} {rest : List Oper} {o : Oper} {a : Act} {Q : Exit → Act → World → Prop} (W : World) (x y : Operand) (g : Nat) (s : St) (old : Array Value)
    (hg : W.heap[g]? = some (.cells old 63 (0, 0))) (hold : old.size = 8) (hgd : o.guard = none) (ho : o.op = .store 63 x y) (hx : a.eval x = .pointer (some ⟨g, 0, none⟩)) (hy : a.eval y = s.v)
    (h : wpList Tryd.prog ops Q rest (a.put o.dst undef) (W.setRow g s.cells)) : wpList Tryd.prog ops Q (o :: rest) a W :=
  wpList_store_row hgd 63 x y ho g s.cells hx hy 63 old hg (by kernel_rfl) hold (all8 s) h
set_option maxRecDepth 100000 in
/-- what is answered is a state in a block of its own -/
theorem ret8 {fn : Func} {p : Tmp} (h : fn.results = #[.cell p 63]) (tmps : Array Value) (W : World) (g : Nat) (s : St) (hp : tmps.getD p undef = .pointer (some ⟨g, 0, none⟩)) (hg : W.heap[g]? = some (.cells s.cells 63 (0, 0))) :
    (results fn tmps).run Tryd.prog W = .ok s.v W :=
  results_cell_row h tmps W g 63 s.cells (0, 0) _ hp hg Tryd.underlying63 rfl (by kernel_rfl)
set_option maxRecDepth 100000 in
theorem alloc3 (w : World) (A B C : Obj) : (((w.alloc A).alloc B).alloc C).heap[w.heap.size]? = some A ∧ (((w.alloc A).alloc B).alloc C).heap[w.heap.size + 1]? = some B ∧ (((w.alloc A).alloc B).alloc C).heap[w.heap.size + 1 + 1]? = some C
    ∧ (((w.alloc A).alloc B).alloc C).heap.size = w.heap.size + 1 + 1 + 1 ∧ Below w.heap.size w (((w.alloc A).alloc B).alloc C) := by
  have e1 : (w.alloc A).heap.size = w.heap.size + 1 := by rw [World.size_alloc]
  have e2 : ((w.alloc A).alloc B).heap.size = w.heap.size + 1 + 1 := by rw [World.size_alloc, e1]
  refine ⟨?_, ?_, ?_, by rw [World.size_alloc, e2], ((((Below.refl _ _).alloc (Nat.le_refl _) _).alloc (by omega) _).alloc (by omega) _)⟩
  · rw [heap_alloc_old (h := by omega), heap_alloc_old (h := by omega), heap_alloc_new]
  · rw [heap_alloc_old (h := by omega), ← e1, heap_alloc_new]
  · rw [← e2, heap_alloc_new]

set_option maxRecDepth 100000 in
theorem st_get (s : St) : s.v = .agg #[wv s.a, wv s.b, wv s.c, wv s.d, wv s.e, wv s.f, wv s.g, wv s.h] := rfl
set_option maxRecDepth 100000 in
theorem wv_of {_s : St} {x : Value} (y : UInt32) (h : x = wv y) : x = wv y := h

set_option maxRecDepth 100000 in
set_option maxHeartbeats 1000000 in
theorem turned_any (s : St) (M : Array Value) (ms : Nat → UInt32) (hM : M.size = 64) (hm : ∀ j, j < 64 → M[j]? = some (wv (ms j))) (w : World) (hk : Ks w) :
    Calls Tryd.prog 51 #[s.v, .agg M] w fun e w' => e = .returned (rnds ms s 64).v ∧ Below w.heap.size w w' := by
  have HM := Lib.hid hm
  have HMs := Lib.hid hM
  have HK := Lib.hid hk
  clear hm hM hk
  generalize hs : s = s0
  have HS := Lib.hid hs
  obtain ⟨sa, sb, sc, sd, se, sf, sg, sh⟩ := s0
  clear hs
  show Calls Tryd.prog 51 #[.agg #[wv sa, wv sb, wv sc, wv sd, wv se, wv sf, wv sg, wv sh], .agg M] w _
  go_enter Tryd.func51, Tryd.ntmps51
  go_wp2
  go_quiet (fail)
  obtain ⟨q1, q2, q3, q4, q5⟩ := alloc3 w (.cells #[wv sa, wv sb, wv sc, wv sd, wv se, wv sf, wv sg, wv sh] 63) (.cells M 83) (.cells #[.int .u32 0, .int .u32 0, .int .u32 0, .int .u32 0, .int .u32 0, .int .u32 0, .int .u32 0, .int .u32 0] 63)
  generalize ((w.alloc (.cells #[wv sa, wv sb, wv sc, wv sd, wv se, wv sf, wv sg, wv sh] 63)).alloc (.cells M 83)).alloc (.cells #[.int .u32 0, .int .u32 0, .int .u32 0, .int .u32 0, .int .u32 0, .int .u32 0, .int .u32 0, .int .u32 0] 63) = W3 at *
  have hc : ∀ j, j < 64 → W3.cell? ⟨w.heap.size + 1, j, none⟩ = some (wv (ms j)) := fun j hj => (cell_of_row _ _ _ _ _ _ q2).trans (HM.out j hj)
  have hk := HK.out.below q5 HK.out.1
  have HC := Lib.hid hc
  have HK3 := Lib.hid hk.2
  have HQ3 := Lib.hid q3
  have HQ4 := Lib.hid q4
  have HQ5 := Lib.hid q5
  clear hc hk q1 q2 q3 q4 q5 HM HMs HK
  go_wp2
  go_loopw [5, 6, 7, 8, 9, 10, 11, 12, 34] (fun xa xb xc xd xe xf xg xh i wr => ∃ (k : Nat) (ta tb tc td te tf tg th : UInt32) (n : Nat), k ≤ 64 ∧ i = .int .i64 k ∧ xa = wv ta ∧ xb = wv tb ∧ xc = wv tc ∧ xd = wv td ∧ xe = wv te ∧ xf = wv tf ∧ xg = wv tg ∧ xh = wv th ∧ Hid (rnds ms s k = ⟨ta, tb, tc, td, te, tf, tg, th⟩) ∧ wr = W3.drewN n) (fun _ _ _ _ _ _ _ _ i _ => 64 - (intOf i).toNat)
  case atStart => exact ⟨0, sa, sb, sc, sd, se, sf, sg, sh, _, by omega, rfl, rfl, rfl, rfl, rfl, rfl, rfl, rfl, rfl, Lib.hid HS.out, rfl⟩
  case round =>
    obtain ⟨k, ta, tb, tc, td, te, tf, tg, th, n, hk, rfl, rfl, rfl, rfl, rfl, rfl, rfl, rfl, rfl, HR, rfl⟩ := hrel
    by_cases hlt : k < 64
    · have c1 := HC.out k hlt
      have c2 := HK3.out k hlt
      have HX := Lib.hid (show rnds ms s (k + 1) = rnd ⟨ta, tb, tc, td, te, tf, tg, th⟩ (ksAt k) (ms k) by rw [rnds, HR.out])
      generalize ksAt k = kk at *
      generalize ms k = mm at *
      obtain ⟨CH, hCH⟩ : ∃ x, x = chF te tf tg := ⟨_, rfl⟩
      obtain ⟨MJ, hMJ⟩ : ∃ x, x = majF ta tb tc := ⟨_, rfl⟩
      obtain ⟨G1, hG1⟩ : ∃ x, x = gr1 te := ⟨_, rfl⟩
      obtain ⟨G0, hG0⟩ : ∃ x, x = gr0 ta := ⟨_, rfl⟩
      have b1 : bits BinOp.xor IntKind.u32 (bits BinOp.and IntKind.u32 (te.toNat : Int) tf.toNat) (bits BinOp.and IntKind.u32 (bits BinOp.xor IntKind.u32 IntKind.u32.max te.toNat) tg.toNat) = CH.toNat := by
        rw [w_and, w_not', w_and, w_xor, hCH]; rfl
      have b2 : bits BinOp.xor IntKind.u32 (bits BinOp.xor IntKind.u32 (bits BinOp.and IntKind.u32 (ta.toNat : Int) tb.toNat) (bits BinOp.and IntKind.u32 (ta.toNat : Int) tc.toNat)) (bits BinOp.and IntKind.u32 (tb.toNat : Int) tc.toNat) = MJ.toNat := by
        rw [w_and, w_and, w_and, w_xor, w_xor, hMJ]; rfl
      have k1 := Lib.hid (fun W => great1_any te W)
      have k0 := Lib.hid (fun W => great0_any ta W)
      rw [← hG1] at k1
      rw [← hG0] at k0
      obtain ⟨T1, hT1⟩ : ∃ x, x = th + G1 + CH + kk + mm := ⟨_, rfl⟩
      obtain ⟨T2, hT2⟩ : ∃ x, x = G0 + MJ := ⟨_, rfl⟩
      have hX : rnd ⟨ta, tb, tc, td, te, tf, tg, th⟩ kk mm = ⟨T1 + T2, ta, tb, tc, td + T1, te, tf, tg⟩ := by
        subst hT1 hT2 hG0 hG1 hCH hMJ; rfl
      rw [hX] at HX
      have b3 : IntKind.u32.wrap (IntKind.u32.wrap (IntKind.u32.wrap (IntKind.u32.wrap ((th.toNat : Int) + G1.toNat) + CH.toNat) + kk.toNat) + mm.toNat) = T1.toNat := by
        rw [w_add, w_add, w_add, w_add, hT1]
      have b4 : ((G0.toNat : Int) + MJ.toNat) % 4294967296 = T2.toNat := by rw [w_add', hT2]
      have b5 : ((td.toNat : Int) + T1.toNat) % 4294967296 = (td + T1).toNat := w_add' _ _
      have b6 : ((T1.toNat : Int) + T2.toNat) % 4294967296 = (T1 + T2).toNat := w_add' _ _
      have B3 := Lib.hid b3
      have B3' := Lib.hid (show ((th.toNat : Int) + G1.toNat + CH.toNat + kk.toNat + mm.toNat) % 4294967296 = T1.toNat by
        rw [hT1]; simp only [UInt32.toNat_add]; omega)
      have B4 := Lib.hid b4
      have B5 := Lib.hid b5
      have B6 := Lib.hid b6
      clear hCH hMJ hG1 hG0 hT1 hT2 hX b3 b4 b5 b6
      go_wp2
      clear b1 b2
      have b3 := B3.out
      go_quiet ((go_at_call 53; exact quiet_add_left (k1.out _)))
      clear b3
      go_wp2_with fail
      refine (k0.out _).mono ?_
      rintro e W1 ⟨rfl, rfl⟩
      go_wp2
      go_roundw
      case rel => exact ⟨k + 1, T1 + T2, ta, tb, tc, td + T1, te, tf, tg, _, by omega, by go_num, int_eq (by rw [B3'.out, B4.out, B6.out]), rfl, rfl, rfl, int_eq (by rw [B3'.out, B5.out]), rfl, rfl, rfl, Lib.hid HX.out, rfl⟩
      case measure => simp [intOf]; omega
    · have hk64 : k = 64 := by omega
      have HR2 := HR.out
      rw [hk64] at HR2
      have HR3 := Lib.hid HR2
      clear hk64 HR2 HR
      go_wp2_with (refine store8 (W3.drewN n) (.tmp 4) (.tmp 95) (w.heap.size + 1 + 1) ⟨ta, tb, tc, td, te, tf, tg, th⟩ _ (heap_drewN_at HQ3.out n) rfl rfl rfl rfl rfl ?_)
      (try simp only [Exit.inBlock, Exit.then])
      refine bodyPost_ret (ret8 rfl _ _ _ ⟨ta, tb, tc, td, te, tf, tg, th⟩ rfl (setRow_heap _ _ _ _ _ _ (heap_drewN_at HQ3.out n))) rfl ?_
      exact ⟨by rw [← HS.out, HR3.out], Below.setRow (below_drewN HQ5.out _) (by omega) _⟩
end Go.Proofs.YtfppcmhhbheaiaaDoor
/- sha.schedule: the words of a block. -/

namespace Go.Proofs.YtfppcmhhbheaiaaDoor
open Go.RowKit

set_option maxRecDepth 100000 in
theorem Rd.getD {w : World} {B : Nat} {A : Option Addr} {l : List UInt8} (h : Rd w B A l) (h0 : 0 < l.length) : ∃ b o, A = some ⟨b, o, none⟩ ∧ b < B ∧ ∀ j, j < l.length → w.cell? ⟨b, o + j, none⟩ = some (.int .u8 ((l.getD j 0).toNat : Int)) := by
  obtain ⟨b, o, e, hb, hc⟩ := h h0
  refine ⟨b, o, e, hb, fun j hj => ?_⟩
  rw [hc j hj, List.getD_eq_getElem?_getD, List.getElem?_eq_getElem hj]
  rfl

set_option maxRecDepth 100000 in
theorem zrows (w : World) (A B : Array Value) (t : TypeId) (n : Nat) (hA : A = Array.replicate n (.int .u32 0)) (hB : B = Array.replicate n (.int .u32 0)) :
    ((w.alloc (.cells A t)).alloc (.cells B t)).rowIs w.heap.size t n (fun _ => .int .u32 0) ∧ ((w.alloc (.cells A t)).alloc (.cells B t)).rowIs (w.heap.size + 1) t n (fun _ => .int .u32 0) ∧ Below w.heap.size w ((w.alloc (.cells A t)).alloc (.cells B t)) := by
  subst hA hB
  have h1 := World.rowIs_alloc w (Array.replicate n (.int .u32 0)) t (fun _ => .int .u32 0) (fun i hi => by simp at hi; simp [hi])
  have h2 := World.rowIs_alloc (w.alloc (.cells (Array.replicate n (.int .u32 0)) t)) (Array.replicate n (.int .u32 0)) t (fun _ => .int .u32 0) (fun i hi => by simp at hi; simp [hi])
  simp only [Array.size_replicate, World.size_alloc] at h1 h2
  exact ⟨h1.alloc _, h2, ((Below.refl _ _).alloc (Nat.le_refl _) _).alloc (by rw [World.size_alloc]; omega) _⟩
set_option maxRecDepth 100000 in
/-- a whole array is loaded out of a block of its own, and stored into one -/
theorem loadRow {ops : Array Oper} {rest : List Oper} {o : Oper} {a : Act} {Q : Exit → Act → World → Prop} (W : World) (t : TypeId) (n : Nat) (e : TypeId) (x : Operand) (g : Nat) (M : Array Value) (hg : W.heap[g]? = some (.cells M t (0, 0)))
    (hu : Tryd.prog.underlying t = some (.array n e)) (hi : (Tryd.prog.info? t).map (·.size) = some M.size) (hgd : o.guard = none) (ho : o.op = .load t x) (hx : a.eval x = .pointer (some ⟨g, 0, none⟩))
    (h : wpList Tryd.prog ops Q rest (a.put o.dst (.agg M)) W) : wpList Tryd.prog ops Q (o :: rest) a W :=
  wpList_load_row hgd t x ho g hx t M (0, 0) _ hg hu rfl hi h
set_option maxRecDepth 100000 in
theorem storeRow {ops : Array Oper} {rest : List Oper} {o : Oper} {a : Act} {Q : Exit → Act → World → Prop} (W : World) (t : TypeId) (x y : Operand) (g : Nat) (M old : Array Value) (hg : W.heap[g]? = some (.cells old t (0, 0)))
    (hi : (Tryd.prog.info? t).map (·.size) = some M.size) (hold : old.size = M.size) (h1 : M.all (·.oneCell') = true) (hgd : o.guard = none) (ho : o.op = .store t x y) (hx : a.eval x = .pointer (some ⟨g, 0, none⟩)) (hy : a.eval y = .agg M)
    (h : wpList Tryd.prog ops Q rest (a.put o.dst undef) (W.setRow g M)) : wpList Tryd.prog ops Q (o :: rest) a W :=
  wpList_store_row hgd t x y ho g M hx hy t old hg hi hold h1 h
set_option maxRecDepth 100000 in
theorem all_words {M : Array Value} {n : Nat} {f : Nat → UInt32} (hn : M.size = n) (h : ∀ i, i < n → M[i]? = some (wv (f i))) : M.all (·.oneCell') = true := by
  rw [Array.all_eq_true_iff_forall_mem]
  intro v hv
  obtain ⟨i, hi, rfl⟩ := Array.mem_iff_getElem.1 hv
  have := h i (by omega)
  rw [Array.getElem?_eq_getElem hi] at this
  rw [Option.some.inj this]
  rfl
set_option maxRecDepth 100000 in
theorem word4_nat (x0 x1 x2 x3 : UInt8) : bits .or .u32 (bits .or .u32 (bits .or .u32 ((x0.toNat : Int) * 16777216) ((x1.toNat : Int) * 65536)) ((x2.toNat : Int) * 256)) (x3.toNat : Int) = ((word4 x0 x1 x2 x3).toNat : Int) := by
  have b0 := x0.toNat_lt
  have b1 := x1.toNat_lt
  have b2 := x2.toNat_lt
  have e0 := w_shl x0.toUInt32 24 (by decide)
  have e1 := w_shl x1.toUInt32 16 (by decide)
  have e2 := w_shl x2.toUInt32 8 (by decide)
  simp only [UInt8.toNat_toUInt32] at e0 e1 e2
  have f0 : (x0.toNat : Int) * 16777216 = ((x0.toUInt32 <<< UInt32.ofNat 24).toNat : Int) := by rw [← e0]; omega
  have f1 : (x1.toNat : Int) * 65536 = ((x1.toUInt32 <<< UInt32.ofNat 16).toNat : Int) := by rw [← e1]; omega
  have f2 : (x2.toNat : Int) * 256 = ((x2.toUInt32 <<< UInt32.ofNat 8).toNat : Int) := by rw [← e2]; omega
  have f3 : (x3.toNat : Int) = (x3.toUInt32.toNat : Int) := by rw [UInt8.toNat_toUInt32]
  rw [f0, f1, f2, f3, w_or, w_or, w_or]
  rfl
set_option maxRecDepth 100000 in
theorem mAt_zero (l : List UInt8) (j : Nat) : mAt l 0 j = 0 := rfl

set_option maxRecDepth 100000 in
set_option maxHeartbeats 1000000 in
theorem schedule_any (A : Option Addr) (l : List UInt8) (c : Nat) (w : World) (hl : l.length = 64) (hr : Rd w w.heap.size A l) :
    Calls Tryd.prog 52 #[.slice A 64 c] w fun e w' => (∃ M : Array Value, e = .returned (.agg M) ∧ M.size = 64 ∧ ∀ j, j < 64 → M[j]? = some (wv (mAt l 64 j))) ∧ Below w.heap.size w w' := by
  obtain ⟨b, o, rfl, hb, hcell⟩ := hr.getD (by omega)
  rw [hl] at hcell
  have HC := Lib.hid hcell
  have HL := Lib.hid hl
  clear hcell hr hl
  go_enter Tryd.func52, Tryd.ntmps52
  go_wp2
  go_loopw [7] (fun i wr => ∃ k : Nat, k ≤ 16 ∧ i = .int .i64 k ∧ wr.rowIs w.heap.size 83 64 (fun _ => .int .u32 0) ∧ wr.rowIs (w.heap.size + 1) 83 64 (fun j => wv (mAt l k j)) ∧ Below w.heap.size w wr) (fun i _ => 16 - (intOf i).toNat)
  case atStart =>
    exact ⟨0, by omega, rfl, (zrows w _ _ _ 64 (by rfl) (by rfl)).1, (zrows w _ _ _ 64 (by rfl) (by rfl)).2.1, (zrows w _ _ _ 64 (by rfl) (by rfl)).2.2⟩
  case round =>
    obtain ⟨k, hk, rfl, hz, hrow, hbel⟩ := hrel
    have HZ := Lib.hid hz
    have HR := Lib.hid hrow
    have HB := Lib.hid hbel
    clear hz hrow hbel
    by_cases hlt : k < 16
    · have c0 := (HB.out.cell (p := ⟨b, o + 4 * k, none⟩) hb).trans (HC.out (4 * k) (by omega))
      have c1 := (HB.out.cell (p := ⟨b, o + (4 * k + 1), none⟩) hb).trans (HC.out (4 * k + 1) (by omega))
      have c2 := (HB.out.cell (p := ⟨b, o + (4 * k + 2), none⟩) hb).trans (HC.out (4 * k + 2) (by omega))
      have c3 := (HB.out.cell (p := ⟨b, o + (4 * k + 3), none⟩) hb).trans (HC.out (4 * k + 3) (by omega))
      have d1 := HR.out.cell (i := k) (by omega)
      have d2 := HR.out.frozen k
      have HW := Lib.hid (show wordAt l k = word4 (l.getD (4 * k) 0) (l.getD (4 * k + 1) 0) (l.getD (4 * k + 2) 0) (l.getD (4 * k + 3) 0) from rfl)
      generalize l.getD (4 * k) 0 = x0 at *
      generalize l.getD (4 * k + 1) 0 = x1 at *
      generalize l.getD (4 * k + 2) 0 = x2 at *
      generalize l.getD (4 * k + 3) 0 = x3 at *
      have b0 := x0.toNat_lt
      have b1 := x1.toNat_lt
      have b2 := x2.toNat_lt
      have b3 := x3.toNat_lt
      go_wp2
      go_region
      go_wp2
      go_roundw
      case rel => exact ⟨k + 1, by omega, by go_num, (HZ.out.setOther (by simp) _).drew, (((HR.out.set k _).congr (fun j hj => by
          rw [mAt_low _ _ _ hlt]
          split
          · rw [HW.out]; exact int_eq (word4_nat _ _ _ _)
          · rfl)).drew), (HB.out.setCell (by simp) _).drew⟩
      case measure => simp [intOf]; omega
    · have hk16 : k = 16 := by omega
      rw [hk16] at HR
      clear hk16
      go_wp2
      go_loopw [6] (fun i wr => ∃ k : Nat, 16 ≤ k ∧ k ≤ 64 ∧ i = .int .i64 k ∧ wr.rowIs w.heap.size 83 64 (fun _ => .int .u32 0) ∧ wr.rowIs (w.heap.size + 1) 83 64 (fun j => wv (mAt l k j)) ∧ Below w.heap.size w wr) (fun i _ => 64 - (intOf i).toNat)
      case atStart => exact ⟨16, by omega, by omega, rfl, HZ.out, HR.out, HB.out⟩
      case round =>
        clear HZ HR HB
        obtain ⟨k, hk1, hk2, rfl, hz, hrow, hbel⟩ := hrel
        have HZ := Lib.hid hz
        have HR := Lib.hid hrow
        have HB := Lib.hid hbel
        clear hz hrow hbel
        by_cases hlt : k < 64
        · obtain ⟨k2, e2⟩ : ∃ k' : Nat, k' = k - 2 := ⟨_, rfl⟩
          obtain ⟨k7, e7⟩ : ∃ k' : Nat, k' = k - 7 := ⟨_, rfl⟩
          obtain ⟨k15, e15⟩ : ∃ k' : Nat, k' = k - 15 := ⟨_, rfl⟩
          obtain ⟨k16, e16⟩ : ∃ k' : Nat, k' = k - 16 := ⟨_, rfl⟩
          obtain ⟨x2, hx2⟩ : ∃ x, x = mAt l k k2 := ⟨_, rfl⟩
          obtain ⟨x7, hx7⟩ : ∃ x, x = mAt l k k7 := ⟨_, rfl⟩
          obtain ⟨x15, hx15⟩ : ∃ x, x = mAt l k k15 := ⟨_, rfl⟩
          obtain ⟨x16, hx16⟩ : ∃ x, x = mAt l k k16 := ⟨_, rfl⟩
          obtain ⟨s1, hs1⟩ : ∃ x, x = sm1 x2 := ⟨_, rfl⟩
          obtain ⟨s0, hs0⟩ : ∃ x, x = sm0 x15 := ⟨_, rfl⟩
          obtain ⟨X, hX⟩ : ∃ x, x = s1 + x7 + s0 + x16 := ⟨_, rfl⟩
          have HX := Lib.hid (show ∀ j, mAt l (k + 1) j = if j = k then X else mAt l k j by
            intro j
            rw [mAt_high _ _ _ (by omega), hX, hs1, hs0, hx2, hx7, hx15, hx16, e2, e7, e15, e16])
          have c2 := HR.out.drew.cell (i := k2) (by omega)
          have c7 := HR.out.drew.cell (i := k7) (by omega)
          have c15 := HR.out.drew.cell (i := k15) (by omega)
          have c16 := HR.out.drew.cell (i := k16) (by omega)
          have d1 := HR.out.drew.cell (i := k) (by omega)
          have d2 := HR.out.drew.frozen k
          have HR2 := Lib.hid HR.out.drew
          have HZ2 := Lib.hid HZ.out.drew
          have HB2 := Lib.hid HB.out.drew
          simp only [← hx2, ← hx7, ← hx15, ← hx16] at c2 c7 c15 c16
          have j2 : IntKind.i64.wrap ((k : Int) - 2) = (k2 : Int) := by rw [IntWalk.i64_in _ (by omega)]; omega
          have j7 : IntKind.i64.wrap ((k : Int) - 7) = (k7 : Int) := by rw [IntWalk.i64_in _ (by omega)]; omega
          have j15 : IntKind.i64.wrap ((k : Int) - 15) = (k15 : Int) := by rw [IntWalk.i64_in _ (by omega)]; omega
          have j16 : IntKind.i64.wrap ((k : Int) - 16) = (k16 : Int) := by rw [IntWalk.i64_in _ (by omega)]; omega
          have a1 : (k2 : Int) < 64 := by omega
          have a2 : (k7 : Int) < 64 := by omega
          have a3 : (k15 : Int) < 64 := by omega
          have a4 : (k16 : Int) < 64 := by omega
          have a5 : (k : Int) < 64 := by omega
          have E := Lib.hid (show ((s1.toNat : Int) + x7.toNat + s0.toNat + x16.toNat) % 4294967296 = X.toNat by rw [hX]; simp only [UInt32.toNat_add]; omega)
          have K1 := Lib.hid (fun W => (small1_any x2 W).mono fun _ _ h => And.intro h.1 h.2.symm)
          have K0 := Lib.hid (fun W => (small0_any x15 W).mono fun _ _ h => And.intro h.1 h.2.symm)
          rw [← hs1] at K1
          rw [← hs0] at K0
          clear e2 e7 e15 e16 hx2 hx7 hx15 hx16 hs1 hs0 hX HR HZ HB
          go_wp2
          refine wp_region_still_tail 23 (by kernel_rfl) (by kernel_rfl) ?_
          change wpStill _ _ wr.drew (fun a' => wpList _ _ _ _ a' wr.drew) _ _
          generalize wr.drew = w2 at *
          simp only [List.take_succ_cons, List.take_zero, List.drop_succ_cons, List.drop_zero]
          repeat (first | still_step | (still_call (K1.out _)) | (still_call (K0.out _)))
          refine wpStill_nil ?_
          go_wp2
          go_roundw
          case rel => exact ⟨k + 1, by omega, by omega, by go_num, HZ2.out.setOther (by simp) _, ((HR2.out.set k _).congr (fun j hj => by
            rw [HX.out]
            split
            · exact int_eq E.out
            · rfl)), HB2.out.setCell (by simp) _⟩
          case measure => simp [intOf]; omega
        · have hk64 : k = 64 := by omega
          rw [hk64] at HR
          clear hk64
          obtain ⟨M, hM1, hM2, hM3⟩ := HR.out
          obtain ⟨Z, hZ1, hZ2, hZ3⟩ := HZ.out
          have hM4 := all_words hM2 hM3
          have hi64 : (Tryd.prog.info? 83).map (·.size) = some M.size := by rw [hM2]; kernel_rfl
          have H1 := Lib.hid hM1
          have H2 := Lib.hid hZ1
          have H3 := Lib.hid hi64
          have H4 := Lib.hid hM4
          have H5 := Lib.hid (hZ2.trans hM2.symm)
          have H6 := Lib.hid hM3
          have H7 := Lib.hid hM2
          clear hM1 hM2 hM3 hM4 hi64 hZ1 hZ2 hZ3
          go_wp2_with (first | (refine loadRow wr 83 64 62 (.tmp 3) (w.heap.size + 1) M H1.out Tryd.underlying83 H3.out rfl rfl rfl ?_) | (refine storeRow wr 83 (.tmp 2) (.tmp 71) w.heap.size M Z H2.out H3.out H5.out H4.out rfl rfl rfl rfl ?_))
          (try simp only [Exit.inBlock, Exit.then])
          refine bodyPost_ret (results_cell_row rfl _ _ w.heap.size 83 M (0, 0) _ rfl (setRow_heap _ _ _ _ _ _ H2.out) Tryd.underlying83 rfl H3.out) rfl ?_
          exact ⟨⟨M, rfl, H7.out, H6.out⟩, Below.setRow HB.out (Nat.le_refl _) _⟩
end Go.Proofs.YtfppcmhhbheaiaaDoor
