
/- sha.schedule: the words of a block. -/
import Derived.Test.YtcfncbbdlbdbnaaDoorTurned
import Derived.StillTailTactics
import Derived.BigRegion
namespace Go.Proofs.YtcfncbbdlbdbnaaDoor
open Go.RowKit

theorem Rd.getD {w : World} {B : Nat} {A : Option Addr} {l : List UInt8} (h : Rd w B A l) (h0 : 0 < l.length) : ∃ b o, A = some ⟨b, o, none⟩ ∧ b < B ∧ ∀ j, j < l.length → w.cell? ⟨b, o + j, none⟩ = some (.int .u8 ((l.getD j 0).toNat : Int)) := by
  obtain ⟨b, o, e, hb, hc⟩ := h h0
  refine ⟨b, o, e, hb, fun j hj => ?_⟩
  rw [hc j hj, List.getD_eq_getElem?_getD, List.getElem?_eq_getElem hj]
  rfl

theorem zrows (w : World) (A B : Array Value) (t : TypeId) (n : Nat) (hA : A = Array.replicate n (.int .u32 0)) (hB : B = Array.replicate n (.int .u32 0)) :
    ((w.alloc (.cells A t)).alloc (.cells B t)).rowIs w.heap.size t n (fun _ => .int .u32 0) ∧ ((w.alloc (.cells A t)).alloc (.cells B t)).rowIs (w.heap.size + 1) t n (fun _ => .int .u32 0) ∧ Below w.heap.size w ((w.alloc (.cells A t)).alloc (.cells B t)) := by
  subst hA hB
  have h1 := World.rowIs_alloc w (Array.replicate n (.int .u32 0)) t (fun _ => .int .u32 0) (fun i hi => by simp at hi; simp [hi])
  have h2 := World.rowIs_alloc (w.alloc (.cells (Array.replicate n (.int .u32 0)) t)) (Array.replicate n (.int .u32 0)) t (fun _ => .int .u32 0) (fun i hi => by simp at hi; simp [hi])
  simp only [Array.size_replicate, World.size_alloc] at h1 h2
  exact ⟨h1.alloc _, h2, ((Below.refl _ _).alloc (Nat.le_refl _) _).alloc (by rw [World.size_alloc]; omega) _⟩
/-- a whole array is loaded out of a block of its own, and stored into one -/
theorem loadRow {ops : Array Oper} {rest : List Oper} {o : Oper} {a : Act} {Q : Exit → Act → World → Prop} (W : World) (t : TypeId) (n : Nat) (e : TypeId) (x : Operand) (g : Nat) (M : Array Value) (hg : W.heap[g]? = some (.cells M t (0, 0)))
    (hu : Tryd.prog.underlying t = some (.array n e)) (hi : (Tryd.prog.info? t).map (·.size) = some M.size) (hgd : o.guard = none) (ho : o.op = .load t x) (hx : a.eval x = .pointer (some ⟨g, 0, none⟩))
    (h : wpList Tryd.prog ops Q rest (a.put o.dst (.agg M)) W) : wpList Tryd.prog ops Q (o :: rest) a W :=
  wpList_load_row hgd t x ho g hx t M (0, 0) _ hg hu rfl hi h
theorem storeRow {ops : Array Oper} {rest : List Oper} {o : Oper} {a : Act} {Q : Exit → Act → World → Prop} (W : World) (t : TypeId) (x y : Operand) (g : Nat) (M old : Array Value) (hg : W.heap[g]? = some (.cells old t (0, 0)))
    (hi : (Tryd.prog.info? t).map (·.size) = some M.size) (hold : old.size = M.size) (h1 : M.all (·.oneCell') = true) (hgd : o.guard = none) (ho : o.op = .store t x y) (hx : a.eval x = .pointer (some ⟨g, 0, none⟩)) (hy : a.eval y = .agg M)
    (h : wpList Tryd.prog ops Q rest (a.put o.dst undef) (W.setRow g M)) : wpList Tryd.prog ops Q (o :: rest) a W :=
  wpList_store_row hgd t x y ho g M hx hy t old hg hi hold h1 h
theorem all_words {M : Array Value} {n : Nat} {f : Nat → UInt32} (hn : M.size = n) (h : ∀ i, i < n → M[i]? = some (wv (f i))) : M.all (·.oneCell') = true := by
  rw [Array.all_eq_true_iff_forall_mem]
  intro v hv
  obtain ⟨i, hi, rfl⟩ := Array.mem_iff_getElem.1 hv
  have := h i (by omega)
  rw [Array.getElem?_eq_getElem hi] at this
  rw [Option.some.inj this]
  rfl
theorem word4_nat (x0 x1 x2 x3 : UInt8) : bits .or .u32 (bits .or .u32 (bits .or .u32 ((x0.toNat : Int) * 16777216) ((x1.toNat : Int) * 65536)) ((x2.toNat : Int) * 256)) (x3.toNat : Int) = ((word4 x0 x1 x2 x3).toNat : Int) := by
  have b0 := x0.toNat_lt
  have b1 := x1.toNat_lt
  have b2 := x2.toNat_lt
  have e0 := w_shl x0.toUInt32 24 (by decide)
  have e1 := w_shl x1.toUInt32 16 (by decide)
  have e2 := w_shl x2.toUInt32 8 (by decide)
  simp only [UInt8.toNat_toUInt32] at e0 e1 e2
  have f0 : (x0.toNat : Int) * 16777216 = ((x0.toUInt32 <<< UInt32.ofNat 24).toNat : Int) := by rw [← e0]; omega
  have f1 : (x1.toNat : Int) * 65536 = ((x1.toUInt32 <<< UInt32.ofNat 16).toNat : Int) := by rw [← e1]; omega
  have f2 : (x2.toNat : Int) * 256 = ((x2.toUInt32 <<< UInt32.ofNat 8).toNat : Int) := by rw [← e2]; omega
  have f3 : (x3.toNat : Int) = (x3.toUInt32.toNat : Int) := by rw [UInt8.toNat_toUInt32]
  rw [f0, f1, f2, f3, w_or, w_or, w_or]
  rfl
theorem mAt_zero (l : List UInt8) (j : Nat) : mAt l 0 j = 0 := rfl

set_option maxRecDepth 100000 in
set_option maxHeartbeats 1000000 in
theorem schedule_any (A : Option Addr) (l : List UInt8) (c : Nat) (w : World) (hl : l.length = 64) (hr : Rd w w.heap.size A l) :
    Calls Tryd.prog 61 #[.slice A 64 c] w fun e w' => (∃ M : Array Value, e = .returned (.agg M) ∧ M.size = 64 ∧ ∀ j, j < 64 → M[j]? = some (wv (mAt l 64 j))) ∧ Below w.heap.size w w' := by
  obtain ⟨b, o, rfl, hb, hcell⟩ := hr.getD (by omega)
  rw [hl] at hcell
  have HC := Lib.hid hcell
  have HL := Lib.hid hl
  clear hcell hr hl
  go_enter Tryd.func61, Tryd.ntmps61
  go_wp2
  go_loopw [7] (fun i wr => ∃ k : Nat, k ≤ 16 ∧ i = .int .i64 k ∧ wr.rowIs w.heap.size 95 64 (fun _ => .int .u32 0) ∧ wr.rowIs (w.heap.size + 1) 95 64 (fun j => wv (mAt l k j)) ∧ Below w.heap.size w wr) (fun i _ => 16 - (intOf i).toNat)
  case atStart =>
    exact ⟨0, by omega, rfl, (zrows w _ _ _ 64 (by rfl) (by rfl)).1, (zrows w _ _ _ 64 (by rfl) (by rfl)).2.1, (zrows w _ _ _ 64 (by rfl) (by rfl)).2.2⟩
  case round =>
    obtain ⟨k, hk, rfl, hz, hrow, hbel⟩ := hrel
    have HZ := Lib.hid hz
    have HR := Lib.hid hrow
    have HB := Lib.hid hbel
    clear hz hrow hbel
    by_cases hlt : k < 16
    · have c0 := (HB.out.cell (p := ⟨b, o + 4 * k, none⟩) hb).trans (HC.out (4 * k) (by omega))
      have c1 := (HB.out.cell (p := ⟨b, o + (4 * k + 1), none⟩) hb).trans (HC.out (4 * k + 1) (by omega))
      have c2 := (HB.out.cell (p := ⟨b, o + (4 * k + 2), none⟩) hb).trans (HC.out (4 * k + 2) (by omega))
      have c3 := (HB.out.cell (p := ⟨b, o + (4 * k + 3), none⟩) hb).trans (HC.out (4 * k + 3) (by omega))
      have d1 := HR.out.cell (i := k) (by omega)
      have d2 := HR.out.frozen k
      have HW := Lib.hid (show wordAt l k = word4 (l.getD (4 * k) 0) (l.getD (4 * k + 1) 0) (l.getD (4 * k + 2) 0) (l.getD (4 * k + 3) 0) from rfl)
      generalize l.getD (4 * k) 0 = x0 at *
      generalize l.getD (4 * k + 1) 0 = x1 at *
      generalize l.getD (4 * k + 2) 0 = x2 at *
      generalize l.getD (4 * k + 3) 0 = x3 at *
      have b0 := x0.toNat_lt
      have b1 := x1.toNat_lt
      have b2 := x2.toNat_lt
      have b3 := x3.toNat_lt
      go_wp2
      go_region
      go_wp2
      go_roundw
      case rel => exact ⟨k + 1, by omega, by go_num, (HZ.out.setOther (by simp) _).drew, (((HR.out.set k _).congr (fun j hj => by
          rw [mAt_low _ _ _ hlt]
          split
          · rw [HW.out]; exact int_eq (word4_nat _ _ _ _)
          · rfl)).drew), (HB.out.setCell (by simp) _).drew⟩
      case measure => simp [intOf]; omega
    · have hk16 : k = 16 := by omega
      rw [hk16] at HR
      clear hk16
      go_wp2
      go_loopw [6] (fun i wr => ∃ k : Nat, 16 ≤ k ∧ k ≤ 64 ∧ i = .int .i64 k ∧ wr.rowIs w.heap.size 95 64 (fun _ => .int .u32 0) ∧ wr.rowIs (w.heap.size + 1) 95 64 (fun j => wv (mAt l k j)) ∧ Below w.heap.size w wr) (fun i _ => 64 - (intOf i).toNat)
      case atStart => exact ⟨16, by omega, by omega, rfl, HZ.out, HR.out, HB.out⟩
      case round =>
        clear HZ HR HB
        obtain ⟨k, hk1, hk2, rfl, hz, hrow, hbel⟩ := hrel
        have HZ := Lib.hid hz
        have HR := Lib.hid hrow
        have HB := Lib.hid hbel
        clear hz hrow hbel
        by_cases hlt : k < 64
        · obtain ⟨k2, e2⟩ : ∃ k' : Nat, k' = k - 2 := ⟨_, rfl⟩
          obtain ⟨k7, e7⟩ : ∃ k' : Nat, k' = k - 7 := ⟨_, rfl⟩
          obtain ⟨k15, e15⟩ : ∃ k' : Nat, k' = k - 15 := ⟨_, rfl⟩
          obtain ⟨k16, e16⟩ : ∃ k' : Nat, k' = k - 16 := ⟨_, rfl⟩
          obtain ⟨x2, hx2⟩ : ∃ x, x = mAt l k k2 := ⟨_, rfl⟩
          obtain ⟨x7, hx7⟩ : ∃ x, x = mAt l k k7 := ⟨_, rfl⟩
          obtain ⟨x15, hx15⟩ : ∃ x, x = mAt l k k15 := ⟨_, rfl⟩
          obtain ⟨x16, hx16⟩ : ∃ x, x = mAt l k k16 := ⟨_, rfl⟩
          obtain ⟨s1, hs1⟩ : ∃ x, x = sm1 x2 := ⟨_, rfl⟩
          obtain ⟨s0, hs0⟩ : ∃ x, x = sm0 x15 := ⟨_, rfl⟩
          obtain ⟨X, hX⟩ : ∃ x, x = s1 + x7 + s0 + x16 := ⟨_, rfl⟩
          have HX := Lib.hid (show ∀ j, mAt l (k + 1) j = if j = k then X else mAt l k j by
            intro j
            rw [mAt_high _ _ _ (by omega), hX, hs1, hs0, hx2, hx7, hx15, hx16, e2, e7, e15, e16])
          have c2 := HR.out.drew.cell (i := k2) (by omega)
          have c7 := HR.out.drew.cell (i := k7) (by omega)
          have c15 := HR.out.drew.cell (i := k15) (by omega)
          have c16 := HR.out.drew.cell (i := k16) (by omega)
          have d1 := HR.out.drew.cell (i := k) (by omega)
          have d2 := HR.out.drew.frozen k
          have HR2 := Lib.hid HR.out.drew
          have HZ2 := Lib.hid HZ.out.drew
          have HB2 := Lib.hid HB.out.drew
          simp only [← hx2, ← hx7, ← hx15, ← hx16] at c2 c7 c15 c16
          have j2 : IntKind.i64.wrap ((k : Int) - 2) = (k2 : Int) := by rw [IntWalk.i64_in _ (by omega)]; omega
          have j7 : IntKind.i64.wrap ((k : Int) - 7) = (k7 : Int) := by rw [IntWalk.i64_in _ (by omega)]; omega
          have j15 : IntKind.i64.wrap ((k : Int) - 15) = (k15 : Int) := by rw [IntWalk.i64_in _ (by omega)]; omega
          have j16 : IntKind.i64.wrap ((k : Int) - 16) = (k16 : Int) := by rw [IntWalk.i64_in _ (by omega)]; omega
          have a1 : (k2 : Int) < 64 := by omega
          have a2 : (k7 : Int) < 64 := by omega
          have a3 : (k15 : Int) < 64 := by omega
          have a4 : (k16 : Int) < 64 := by omega
          have a5 : (k : Int) < 64 := by omega
          have E := Lib.hid (show ((s1.toNat : Int) + x7.toNat + s0.toNat + x16.toNat) % 4294967296 = X.toNat by rw [hX]; simp only [UInt32.toNat_add]; omega)
          have K1 := Lib.hid (fun W => (small1_any x2 W).mono fun _ _ h => And.intro h.1 h.2.symm)
          have K0 := Lib.hid (fun W => (small0_any x15 W).mono fun _ _ h => And.intro h.1 h.2.symm)
          rw [← hs1] at K1
          rw [← hs0] at K0
          clear e2 e7 e15 e16 hx2 hx7 hx15 hx16 hs1 hs0 hX HR HZ HB
          go_wp2
          refine wp_region_still_tail 23 (by kernel_rfl) (by kernel_rfl) ?_
          change wpStill _ _ wr.drew (fun a' => wpList _ _ _ _ a' wr.drew) _ _
          generalize wr.drew = w2 at *
          simp only [List.take_succ_cons, List.take_zero, List.drop_succ_cons, List.drop_zero]
          repeat (first | still_step | (still_call (K1.out _)) | (still_call (K0.out _)))
          refine wpStill_nil ?_
          go_wp2
          go_roundw
          case rel => exact ⟨k + 1, by omega, by omega, by go_num, HZ2.out.setOther (by simp) _, ((HR2.out.set k _).congr (fun j hj => by
            rw [HX.out]
            split
            · exact int_eq E.out
            · rfl)), HB2.out.setCell (by simp) _⟩
          case measure => simp [intOf]; omega
        · have hk64 : k = 64 := by omega
          rw [hk64] at HR
          clear hk64
          obtain ⟨M, hM1, hM2, hM3⟩ := HR.out
          obtain ⟨Z, hZ1, hZ2, hZ3⟩ := HZ.out
          have hM4 := all_words hM2 hM3
          have hi64 : (Tryd.prog.info? 95).map (·.size) = some M.size := by rw [hM2]; kernel_rfl
          have H1 := Lib.hid hM1
          have H2 := Lib.hid hZ1
          have H3 := Lib.hid hi64
          have H4 := Lib.hid hM4
          have H5 := Lib.hid (hZ2.trans hM2.symm)
          have H6 := Lib.hid hM3
          have H7 := Lib.hid hM2
          clear hM1 hM2 hM3 hM4 hi64 hZ1 hZ2 hZ3
          go_wp2_with (first | (refine loadRow wr 95 64 75 (.tmp 3) (w.heap.size + 1) M H1.out Tryd.underlying95 H3.out rfl rfl rfl ?_) | (refine storeRow wr 95 (.tmp 2) (.tmp 71) w.heap.size M Z H2.out H3.out H5.out H4.out rfl rfl rfl rfl ?_))
          (try simp only [Exit.inBlock, Exit.then])
          refine bodyPost_ret (results_cell_row rfl _ _ w.heap.size 95 M (0, 0) _ rfl (setRow_heap _ _ _ _ _ _ H2.out) Tryd.underlying95 rfl H3.out) rfl ?_
          exact ⟨⟨M, rfl, H7.out, H6.out⟩, Below.setRow HB.out (Nat.le_refl _) _⟩
end Go.Proofs.YtcfncbbdlbdbnaaDoor
