
/- sha.blocks: the words behind all whole blocks, and what is left. -/
import Derived.Test.YtfppcmhhbheaiaaDoorJ13
namespace Go.Proofs.YtfppcmhhbheaiaaDoor
open Go.RowKit

set_option maxRecDepth 100000 in
theorem frozen8 {w : World} {g : Nat} {t : TypeId} {c : Array Value} (h : w.heap[g]? = some (.cells c t (0, 0))) :
    w.frozen? ⟨g, 0, none⟩ = false ∧ w.frozen? ⟨g, 1, none⟩ = false ∧ w.frozen? ⟨g, 2, none⟩ = false ∧ w.frozen? ⟨g, 3, none⟩ = false ∧ w.frozen? ⟨g, 4, none⟩ = false ∧ w.frozen? ⟨g, 5, none⟩ = false ∧ w.frozen? ⟨g, 6, none⟩ = false ∧ w.frozen? ⟨g, 7, none⟩ = false :=
  have hf := fun j => frozen_of_row w g j _ _ h
  ⟨hf 0, hf 1, hf 2, hf 3, hf 4, hf 5, hf 6, hf 7⟩
set_option maxRecDepth 100000 in
theorem set8_st {w : World} {g : Nat} {t : TypeId} (s : St) {s0 : St} (h : w.heap[g]? = some (.cells s0.cells t (0, 0))) : (set8 w g s).heap[g]? = some (.cells s.cells t (0, 0)) := by
  have h0 := heap_setCell_same w g 0 _ t (wv s.a) h
  have h1 := heap_setCell_same _ g 1 _ t (wv s.b) h0
  have h2 := heap_setCell_same _ g 2 _ t (wv s.c) h1
  have h3 := heap_setCell_same _ g 3 _ t (wv s.d) h2
  have h4 := heap_setCell_same _ g 4 _ t (wv s.e) h3
  have h5 := heap_setCell_same _ g 5 _ t (wv s.f) h4
  have h6 := heap_setCell_same _ g 6 _ t (wv s.g) h5
  have h7 := heap_setCell_same _ g 7 _ t (wv s.h) h6
  unfold set8
  rw [h7]
  simp only [List.setIfInBounds_toArray, List.set_cons_zero, List.set_cons_succ, St.cells]

set_option maxRecDepth 100000 in
set_option maxHeartbeats 2000000 in
theorem blocks_any (s : St) (A : Option Addr) (l : List UInt8) (c : Nat) (w : World) (_hl : l.length ≤ 1000000) (hlc : l.length ≤ c) (hc : c ≤ 9223372036854775807) (hr : Rd w w.heap.size A l) (hk : Ks w) :
    Calls Tryd.prog 46 #[s.v, .slice A l.length c] w fun e w' => (∃ A' c', e = .returned (.tuple #[(blks s l).v, .slice A' (l.length % 64) c']) ∧ l.length % 64 ≤ c' ∧ c' ≤ 9223372036854775807 ∧ Rd w' w'.heap.size A' (left l) ∧ ∀ p, A' = some p → ∃ q, A = some q ∧ q.block = p.block) ∧ Below w.heap.size w w' := by
  have HR := Lib.hid hr
  have HK := Lib.hid hk
  obtain ⟨n, hn⟩ : ∃ n, n = l.length := ⟨_, rfl⟩
  have HN := Lib.hid hn
  rw [← hn] at _hl hlc ⊢
  clear hr hk hn
  show Calls Tryd.prog 46 #[.agg #[wv s.a, wv s.b, wv s.c, wv s.d, wv s.e, wv s.f, wv s.g, wv s.h], .slice A n c] w _
  go_enter Tryd.func46, Tryd.ntmps46
  go_wp2
  obtain ⟨q1, q2, q3, q4⟩ := alloc2 w (.cells s.cells 63) (.cells Z8 63)
  unfold Z8 at *
  generalize (w.alloc (.cells #[wv s.a, wv s.b, wv s.c, wv s.d, wv s.e, wv s.f, wv s.g, wv s.h] 63)).alloc (.cells #[.int .u32 0, .int .u32 0, .int .u32 0, .int .u32 0, .int .u32 0, .int .u32 0, .int .u32 0, .int .u32 0] 63) = w0 at *
  have Q1 := Lib.hid q1
  have Q2 := Lib.hid q2
  have Q4 := Lib.hid q4
  clear q1 q2 q4
  go_loopw [1] (fun v wr => ∃ (k m : Nat) (A' : Option Addr) (c' : Nat), Hid (m + 64 * k = n) ∧ v = .slice A' m c' ∧ m ≤ c' ∧ c' ≤ 9223372036854775807 ∧ Rd w w.heap.size A' (l.drop (64 * k)) ∧ wr.heap[w.heap.size]? = some (.cells (blkN s l k).cells 63 (0, 0)) ∧ wr.heap[w.heap.size + 1]? = some (.cells Z8 63 (0, 0)) ∧ Below w.heap.size w wr ∧ w.heap.size + 1 < wr.heap.size ∧ ∀ p, A' = some p → ∃ q, A = some q ∧ q.block = p.block) (fun v _ => match v with | .slice _ m _ => m | _ => 0)
  case atStart => exact ⟨0, n, A, c, Lib.hid (by omega), rfl, hlc, hc, HR.out, Q1.out, Q2.out, Q4.out, by omega, fun p hp => ⟨p, hp, rfl⟩⟩
  case round =>
    clear Q1 Q2 Q4
    obtain ⟨k, m, A', c', hm, rfl, hmc, hc', hrd, hS, hZ, hB, hsz, hab⟩ := hrel
    have HAB := Lib.hid hab
    clear hab
    have HRD := Lib.hid hrd
    have HS := Lib.hid hS
    have HZ := Lib.hid hZ
    have HB := Lib.hid hB
    have HKr := Lib.hid (HK.out.below hB HK.out.1)
    clear hrd hS hZ hB
    have hlen : (l.drop (64 * k)).length = m := by rw [List.length_drop, ← HN.out]; have := hm.out; omega
    have HL := Lib.hid hlen
    clear hlen
    by_cases hlt : 64 ≤ m
    · have h64 : (64 : Int) ≤ (m : Int) := by omega
      have hlt' : 64 ≤ c' := by omega
      have h64c : (64 : Int) ≤ (c' : Int) := by omega
      obtain ⟨S0, hS0⟩ : ∃ x, x = blkN s l k := ⟨_, rfl⟩
      have HN1 := Lib.hid (show blkN s l (k + 1) = compress S0 ((l.drop (64 * k)).take 64) by rw [hS0]; rfl)
      rw [← hS0] at HS
      clear hS0
      have hr64 : Rd w w.heap.size A' ((l.drop (64 * k)).take 64) := fun h0 => by
        obtain ⟨b, o, e, hb, hcell⟩ := HRD.out (by rw [HL.out]; omega)
        refine ⟨b, o, e, hb, fun j hj => ?_⟩
        have hj2 : j < (l.drop (64 * k)).length := by have : j < min 64 (l.drop (64 * k)).length := by simpa using hj
                                                      omega
        rw [hcell j hj2]
        simp
      have HR64 := Lib.hid ((hr64.below HB.out (Nat.le_refl _)).more HB.out.size)
      have HL64 := Lib.hid (show ((l.drop (64 * k)).take 64).length = 64 by rw [List.length_take, HL.out]; omega)
      clear hr64
      generalize (l.drop (64 * k)).take 64 = l64 at *
      obtain ⟨e0, e1, e2, e3, e4, e5, e6, e7⟩ := cells8 (w := wr.drew) HS.out
      go_wp2
      go_region_with (go_at_call 50; refine (block_any S0 A' l64 c' _ HL64.out ?_ ?_).mono ?_; (exact HR64.out); (exact HKr.out); rintro e w2 ⟨rfl, hb2⟩; have hq := old_below (g := w.heap.size) (by exact HS.out) hb2 (Nat.le_refl _); have HQ := Lib.hid hq; obtain ⟨v0, v1, v2, v3, v4, v5, v6, v7⟩ := cells8 hq; obtain ⟨y0, y1, y2, y3, y4, y5, y6, y7⟩ := frozen8 hq; have HB2 := Lib.hid (bel_call (B := w.heap.size) (w := w) (by exact HB.out.drew) hb2 (by exact Nat.le_of_lt (Nat.lt_of_succ_lt hsz))); have HZ2 := Lib.hid (old_below (g := w.heap.size + 1) (by exact HZ.out) hb2 (Nat.le_refl _)); have hsz2 : w.heap.size + 1 < w2.heap.size := Nat.lt_of_lt_of_le hsz hb2.size; clear hb2 hq)
      change Exit.then _ _ _ _ (set8 w2 w.heap.size (compress S0 l64))
      have g1 := set8_st (compress S0 l64) HQ.out
      have g2 := (set8_other (compress S0 l64) (show w.heap.size + 1 ≠ w.heap.size by omega)).trans HZ2.out
      have g3 := Below.set8 HB2.out (Nat.le_refl _) (compress S0 l64)
      have g4 : w.heap.size + 1 < (set8 w2 w.heap.size (compress S0 l64)).heap.size := (Array.getElem?_eq_some_iff.1 g2).1
      generalize set8 w2 w.heap.size (compress S0 l64) = W3 at *
      have G1 := Lib.hid g1
      have G2 := Lib.hid g2
      have G3 := Lib.hid g3
      clear g1 g2 g3 HB2 HZ2 HQ v0 v1 v2 v3 v4 v5 v6 v7 y0 y1 y2 y3 y4 y5 y6 y7 e0 e1 e2 e3 e4 e5 e6 e7
      go_wp2
      go_roundw
      case rel =>
        refine ⟨k + 1, m - 64, _, _, Lib.hid (by have := hm.out; omega), rfl, by omega, by omega, ?_, by rw [HN1.out]; exact G1.out, G2.out, G3.out, g4, fun p hp => by
          by_cases h64 : c' = 64
          · rw [if_pos h64] at hp
            exact HAB.out p hp
          · rw [if_neg h64] at hp
            obtain ⟨q, hq, rfl⟩ := Option.map_eq_some_iff.1 hp
            exact HAB.out q hq⟩
        have h := HRD.out.cut 64 (m - 64) c' (by rw [HL.out]; omega) (by rw [HL.out]; exact hmc)
        have e : ((l.drop (64 * k)).drop 64).take (m - 64) = l.drop (64 * (k + 1)) := by
          rw [List.drop_drop, List.take_of_length_le (by rw [List.length_drop]; have := HL.out; rw [List.length_drop] at this; omega)]
          congr 1
        rw [e] at h
        exact h
      case measure => show m - 64 < m; omega
    · have hk : k = n / 64 ∧ m = n % 64 := by have := hm.out; omega
      obtain ⟨hk1, hk2⟩ := hk
      have r1 := HS.out
      rw [hk1] at r1
      have R1 := Lib.hid r1
      have HE := Lib.hid (show blkN s l (n / 64) = blks s l by unfold blks; rw [← HN.out])
      have HF := Lib.hid (show l.drop (64 * k) = left l by unfold left; rw [← HN.out, hk1])
      have HM := Lib.hid hk2
      rw [HE.out] at R1
      clear r1 hk1 hk2 HS HL
      go_wp2_with (first | (refine load8 wr (.tmp 2) w.heap.size (blks s l) R1.out rfl rfl rfl ?_) | (refine store8 wr (.tmp 4) (.tmp 18) (w.heap.size + 1) (blks s l) _ HZ.out rfl rfl rfl rfl rfl ?_))
      (try simp only [Exit.inBlock, Exit.then])
      refine bodyPost_ret (ret8_2 rfl _ _ (w.heap.size + 1) (blks s l) rfl (setRow_heap _ _ _ _ _ _ HZ.out)) rfl ?_
      have g3 := Below.setRow HB.out (Nat.le_succ w.heap.size) (blks s l).cells
      exact ⟨⟨A', c', by rw [← HM.out]; rfl, by rw [← HM.out]; exact hmc, hc', by rw [← HF.out]; exact (HRD.out.below g3 (Nat.le_refl _)).more g3.size, HAB.out⟩, g3⟩
end Go.Proofs.YtfppcmhhbheaiaaDoor
/- sha.Put, sha.New, sha.Right. -/

namespace Go.Proofs.YtfppcmhhbheaiaaDoor
open Go.RowKit

/-- a digest under way, as cells -/
abbrev hcells (s : St) (N : Int) (r : Value) : Array Value := #[wv s.a, wv s.b, wv s.c, wv s.d, wv s.e, wv s.f, wv s.g, wv s.h, .int .i64 N, r]
abbrev hv (s : St) (N : Int) (r : Value) : Value := .agg (hcells s N r)
def Z10 : Array Value := #[.int .u32 0, .int .u32 0, .int .u32 0, .int .u32 0, .int .u32 0, .int .u32 0, .int .u32 0, .int .u32 0, .int .i64 0, .slice none 0 0]
/-- a call's answer: a digest under way -/
def AnsH (W' : World) (e : Ending) (s : St) (N : Int) (l : List UInt8) : Prop := ∃ A c, e = .returned (hv s N (.slice A l.length c)) ∧ l.length ≤ c ∧ c ≤ 9223372036854775807 ∧ Rd W' W'.heap.size A l
set_option maxRecDepth 100000 in
theorem cells10 {w : World} {g : Nat} {s : St} {N : Int} {r : Value} {t : TypeId} {fr : Nat × Nat} (h : w.heap[g]? = some (.cells (hcells s N r) t fr)) :
    w.cell? ⟨g, 0, none⟩ = some (wv s.a) ∧ w.cell? ⟨g, 1, none⟩ = some (wv s.b) ∧ w.cell? ⟨g, 2, none⟩ = some (wv s.c) ∧ w.cell? ⟨g, 3, none⟩ = some (wv s.d) ∧ w.cell? ⟨g, 4, none⟩ = some (wv s.e) ∧ w.cell? ⟨g, 5, none⟩ = some (wv s.f) ∧ w.cell? ⟨g, 6, none⟩ = some (wv s.g) ∧ w.cell? ⟨g, 7, none⟩ = some (wv s.h) ∧ w.cell? ⟨g, 8, none⟩ = some (.int .i64 N) ∧ w.cell? ⟨g, 9, none⟩ = some r :=
  have hcl : ∀ j v, (hcells s N r)[j]? = some v → w.cell? ⟨g, j, none⟩ = some v := fun _j _v h' => (cell_of_row _ _ _ _ _ _ h).trans h'
  ⟨hcl 0 _ rfl, hcl 1 _ rfl, hcl 2 _ rfl, hcl 3 _ rfl, hcl 4 _ rfl, hcl 5 _ rfl, hcl 6 _ rfl, hcl 7 _ rfl, hcl 8 _ rfl, hcl 9 _ rfl⟩

/-- ten stores, one behind the other -/
def setH (w : World) (g : Nat) (s : St) (N : Int) (r : Value) : World := ((((((((((w.setCell ⟨g, 0, none⟩ (wv s.a)).setCell ⟨g, 1, none⟩ (wv s.b)).setCell ⟨g, 2, none⟩ (wv s.c)).setCell ⟨g, 3, none⟩ (wv s.d)).setCell ⟨g, 4, none⟩ (wv s.e)).setCell ⟨g, 5, none⟩ (wv s.f)).setCell ⟨g, 6, none⟩ (wv s.g)).setCell ⟨g, 7, none⟩ (wv s.h)).setCell ⟨g, 8, none⟩ (.int .i64 N)).setCell ⟨g, 9, none⟩ r)
set_option maxRecDepth 100000 in
theorem setH_same {w : World} {g : Nat} {t : TypeId} {s0 : St} {N0 : Int} {r0 : Value} (s : St) (N : Int) (r : Value) (h : w.heap[g]? = some (.cells (hcells s0 N0 r0) t (0, 0))) : (setH w g s N r).heap[g]? = some (.cells (hcells s N r) t (0, 0)) := by
  have h0 := heap_setCell_same w g 0 _ t (wv s.a) h
  have h1 := heap_setCell_same _ g 1 _ t (wv s.b) h0
  have h2 := heap_setCell_same _ g 2 _ t (wv s.c) h1
  have h3 := heap_setCell_same _ g 3 _ t (wv s.d) h2
  have h4 := heap_setCell_same _ g 4 _ t (wv s.e) h3
  have h5 := heap_setCell_same _ g 5 _ t (wv s.f) h4
  have h6 := heap_setCell_same _ g 6 _ t (wv s.g) h5
  have h7 := heap_setCell_same _ g 7 _ t (wv s.h) h6
  have h8 := heap_setCell_same _ g 8 _ t (.int .i64 N) h7
  have h9 := heap_setCell_same _ g 9 _ t r h8
  unfold setH
  rw [h9]
  simp only [List.setIfInBounds_toArray, List.set_cons_zero, List.set_cons_succ, hcells]
set_option maxRecDepth 100000 in
theorem setH_other {w : World} {g k : Nat} (s : St) (N : Int) (r : Value) (h : k ≠ g) : (setH w g s N r).heap[k]? = w.heap[k]? := by
  unfold setH
  rw [heap_setCell_other _ _ _ _ h, heap_setCell_other _ _ _ _ h, heap_setCell_other _ _ _ _ h, heap_setCell_other _ _ _ _ h, heap_setCell_other _ _ _ _ h, heap_setCell_other _ _ _ _ h, heap_setCell_other _ _ _ _ h, heap_setCell_other _ _ _ _ h, heap_setCell_other _ _ _ _ h, heap_setCell_other _ _ _ _ h]
set_option maxRecDepth 100000 in
theorem Below.setH {B : Nat} {a w : World} (h : Below B a w) {g : Nat} (hg : B ≤ g) (s : St) (N : Int) (r : Value) : Below B a (setH w g s N r) :=
  ((((((((((h.setCell (p := ⟨g, 0, none⟩) hg _).setCell (p := ⟨g, 1, none⟩) hg _).setCell (p := ⟨g, 2, none⟩) hg _).setCell (p := ⟨g, 3, none⟩) hg _).setCell (p := ⟨g, 4, none⟩) hg _).setCell (p := ⟨g, 5, none⟩) hg _).setCell (p := ⟨g, 6, none⟩) hg _).setCell (p := ⟨g, 7, none⟩) hg _).setCell (p := ⟨g, 8, none⟩) hg _).setCell (p := ⟨g, 9, none⟩) hg _)
set_option maxRecDepth 100000 in
theorem Rd.setH {w : World} {A : Option Addr} {l : List UInt8} {g : Nat} (h : Rd w w.heap.size A l) (s : St) (N : Int) (r : Value) (hne : ∀ p, A = some p → p.block ≠ g) : Rd (setH w g s N r) (setH w g s N r).heap.size A l := by
  intro h0
  obtain ⟨b, o, e, hb, hc⟩ := h h0
  have hbg : b ≠ g := hne _ e
  have hs : (Go.Proofs.YtfppcmhhbheaiaaDoor.setH w g s N r).heap[b]? = w.heap[b]? := setH_other s N r hbg
  refine ⟨b, o, e, ?_, fun j hj => ?_⟩
  · have hsz := (Below.setH (Below.refl 0 w) (Nat.zero_le g) s N r).size
    omega
  · rw [World.cell?_of_block (w := w) (a := ⟨b, o + j, none⟩) hs]
    exact hc j hj
set_option maxRecDepth 100000 in
theorem far10 {w : World} {g b j : Nat} {x0 x1 x2 x3 x4 x5 x6 x7 x8 x9 u : Value} (h : w.cell? ⟨b, j, none⟩ = some u) (hb : b ≠ g) :
    ((((((((((w.setCell ⟨g, 0, none⟩ x0).setCell ⟨g, 1, none⟩ x1).setCell ⟨g, 2, none⟩ x2).setCell ⟨g, 3, none⟩ x3).setCell ⟨g, 4, none⟩ x4).setCell ⟨g, 5, none⟩ x5).setCell ⟨g, 6, none⟩ x6).setCell ⟨g, 7, none⟩ x7).setCell ⟨g, 8, none⟩ x8).setCell ⟨g, 9, none⟩ x9).cell? ⟨b, j, none⟩ = some u := by
  rw [far hb, far hb, far hb, far hb, far hb, far hb, far hb, far hb, far hb, far hb]
  exact h
set_option maxRecDepth 100000 in
theorem frozen10 {w : World} {g : Nat} {t : TypeId} {c : Array Value} (h : w.heap[g]? = some (.cells c t (0, 0))) :
    w.frozen? ⟨g, 0, none⟩ = false ∧ w.frozen? ⟨g, 1, none⟩ = false ∧ w.frozen? ⟨g, 2, none⟩ = false ∧ w.frozen? ⟨g, 3, none⟩ = false ∧ w.frozen? ⟨g, 4, none⟩ = false ∧ w.frozen? ⟨g, 5, none⟩ = false ∧ w.frozen? ⟨g, 6, none⟩ = false ∧ w.frozen? ⟨g, 7, none⟩ = false ∧ w.frozen? ⟨g, 8, none⟩ = false ∧ w.frozen? ⟨g, 9, none⟩ = false :=
  have hf := fun j => frozen_of_row w g j _ _ h
  ⟨hf 0, hf 1, hf 2, hf 3, hf 4, hf 5, hf 6, hf 7, hf 8, hf 9⟩
def S00 : St := ⟨0, 0, 0, 0, 0, 0, 0, 0⟩
set_option maxRecDepth 100000 in
/-- what is answered is a digest under way in a block of its own -/
theorem retH {fn : Func} {p : Tmp} (h : fn.results = #[.cell p 65]) (tmps : Array Value) (W : World) (g : Nat) (s : St) (N : Int) (r : Value) (hp : tmps.getD p undef = .pointer (some ⟨g, 0, none⟩)) (hg : W.heap[g]? = some (.cells (hcells s N r) 65 (0, 0))) :
    (results fn tmps).run Tryd.prog W = .ok (hv s N r) W :=
  results_cell_row h tmps W g 65 (hcells s N r) (0, 0) _ hp hg Tryd.underlying65 rfl (by kernel_rfl)

set_option maxRecDepth 100000 in
theorem new_any (w : World) : Calls Tryd.prog 44 #[] w fun e w' => e = .returned (hv h0 0 (.slice none 0 0)) ∧ Below w.heap.size w w' := by
  go_enter Tryd.func44, Tryd.ntmps44
  go_wp2
  (try simp only [Exit.inBlock, Exit.then])
  refine bodyPost_ret (retH rfl _ _ w.heap.size h0 0 (.slice none 0 0) rfl (heap_alloc_new w _)) rfl ?_
  exact ⟨rfl, (Below.refl _ _).alloc (Nat.le_refl _) _⟩

set_option maxRecDepth 100000 in
set_option maxHeartbeats 2000000 in
theorem put_full (s : St) (N : Nat) (A C : Option Addr) (l m : List UInt8) (c d : Nat) (w : World) (hl : l.length + m.length ≤ 1000000) (_hlc : l.length ≤ c) (_hmd : m.length ≤ d) (hr : Rd w w.heap.size A l) (_hN : N ≤ 1125899906842624) (hfull : 1125899906842624 < N + m.length) :
    Calls Tryd.prog 43 #[hv s N (.slice A l.length c), .slice C m.length d] w fun e w' => AnsH w' e s N l ∧ Below w.heap.size w w' := by
  have HR := Lib.hid hr
  obtain ⟨n, hn⟩ : ∃ n, n = l.length := ⟨_, rfl⟩
  obtain ⟨k, hk⟩ : ∃ k, k = m.length := ⟨_, rfl⟩
  have HN := Lib.hid hn
  have HK := Lib.hid hk
  have HO := Lib.hid (fun W h => own_any A l c W (by omega) h)
  rw [← hk] at hl hfull _hmd ⊢
  rw [← hn] at hl _hlc HO ⊢
  clear hn hk hr
  have hlt : 1125899906842624 - (k : Int) < (N : Int) := by omega
  go_enter Tryd.func43, Tryd.ntmps43
  go_wp2
  obtain ⟨q1, q2, q3, q4⟩ := alloc2 w (.cells (hcells s N (.slice A n c)) 65) (.cells (hcells S00 0 (.slice none 0 0)) 65)
  change Code.wp _ _ _ _ ((w.alloc (.cells (hcells s N (.slice A n c)) 65)).alloc (.cells (hcells S00 0 (.slice none 0 0)) 65))
  generalize (w.alloc (.cells (hcells s N (.slice A n c)) 65)).alloc (.cells (hcells S00 0 (.slice none 0 0)) 65) = w0 at *
  obtain ⟨e0, e1, e2, e3, e4, e5, e6, e7, e8, e9⟩ := cells10 (w := w0.drew) q1
  have hg0 : w.heap.size < w0.heap.size := by omega
  have hg1 : w.heap.size + 1 < w0.heap.size := by omega
  have Q1 := Lib.hid q1
  have Q2 := Lib.hid q2
  have Q4 := Lib.hid q4
  have HR0 := Lib.hid ((HR.out.below q4 (Nat.le_refl _)).more q4.size)
  clear q1 q2 q3 q4 HR
  go_region_held3 (fun w' => w'.cell? ⟨w.heap.size, 0, none⟩ = some (wv s.a) ∧ w'.cell? ⟨w.heap.size, 1, none⟩ = some (wv s.b) ∧ w'.cell? ⟨w.heap.size, 2, none⟩ = some (wv s.c) ∧ w'.cell? ⟨w.heap.size, 3, none⟩ = some (wv s.d) ∧ w'.cell? ⟨w.heap.size, 4, none⟩ = some (wv s.e) ∧ w'.cell? ⟨w.heap.size, 5, none⟩ = some (wv s.f) ∧ w'.cell? ⟨w.heap.size, 6, none⟩ = some (wv s.g) ∧ w'.cell? ⟨w.heap.size, 7, none⟩ = some (wv s.h) ∧ w'.cell? ⟨w.heap.size, 8, none⟩ = some (.int .i64 (N : Int)) ∧ w'.cell? ⟨w.heap.size, 9, none⟩ = some (.slice A n c))
    (first
     | ((try dsimp only); go_split_ands; refine ⟨?_, ?_, ?_, ?_, ?_, ?_, ?_, ?_, ?_, ?_⟩ <;> with_reducible assumption)
     | ((try dsimp only); go_split_ands; refine ⟨?_, ?_, ?_, ?_, ?_, ?_, ?_, ?_, ?_, ?_⟩ <;> (with_reducible refine far10 ?_ ?_) <;> (first | (with_reducible assumption) | omega)))
    (first
    | (go_at_call 49; refine (HO.out _ ?_).mono ?_; (exact HR0.out); rintro e w1 ⟨⟨A1, c1, rfl, hc1, hc2, hr1, hfr⟩, hb1⟩; have HR1 := Lib.hid hr1; have HFR := Lib.hid hfr; have BB1 := Lib.hid (bel_call (B := w.heap.size) (w := w) Q4.out.drew hb1 (by exact Nat.le_of_lt hg0)); have hq1 := old_below (g := w.heap.size) (by exact Q1.out) hb1 (Nat.le_refl _); obtain ⟨v0, v1, v2, v3, v4, v5, v6, v7, v8, v9⟩ := cells10 hq1; have hq2 := old_below (g := w.heap.size + 1) (by exact Q2.out) hb1 (Nat.le_refl _); obtain ⟨z0, z1, z2, z3, z4, z5, z6, z7, z8, z9⟩ := cells10 hq2; obtain ⟨y0, y1, y2, y3, y4, y5, y6, y7, y8, y9⟩ := frozen10 hq2; have QQ2 := Lib.hid hq2; clear hb1 hq1 hq2 hr1 hfr))
  change Exit.then _ _ _ _ (setH w1 (w.heap.size + 1) s N (.slice A1 n c1))
  have g1 := setH_same s N (.slice A1 n c1) QQ2.out
  have g3 := Below.setH BB1.out (Nat.le_succ w.heap.size) s N (.slice A1 n c1)
  have g5 := HR1.out.setH s N (.slice A1 n c1) (show ∀ p, A1 = some p → p.block ≠ w.heap.size + 1 from fun p hp => by
    have := (HFR.out p hp).1
    have h2 : w0.drew.heap.size = w0.heap.size := rfl
    omega)
  generalize setH w1 (w.heap.size + 1) s N (.slice A1 n c1) = W3 at *
  have G1 := Lib.hid g1
  have G3 := Lib.hid g3
  have G5 := Lib.hid g5
  clear g1 g3 g5
  go_wp2_with fail
  (try simp only [Exit.inBlock, Exit.then])
  refine bodyPost_ret (retH rfl _ _ (w.heap.size + 1) s N (.slice A1 n c1) rfl G1.out) rfl ?_
  exact ⟨⟨A1, c1, by rw [← HN.out], by rw [← HN.out]; exact hc1, hc2, G5.out⟩, G3.out⟩
end Go.Proofs.YtfppcmhhbheaiaaDoor
/- sha.Put where there is room. -/

namespace Go.Proofs.YtfppcmhhbheaiaaDoor
open Go.RowKit

set_option maxRecDepth 100000 in
theorem Rd.set8 {w : World} {A : Option Addr} {l : List UInt8} {g : Nat} (h : Rd w w.heap.size A l) (s : St) (hne : ∀ p, A = some p → p.block ≠ g) : Rd (set8 w g s) (set8 w g s).heap.size A l := by
  intro h0
  obtain ⟨b, o, e, hb, hc⟩ := h h0
  have hbg : b ≠ g := hne _ e
  have hs : (Go.Proofs.YtfppcmhhbheaiaaDoor.set8 w g s).heap[b]? = w.heap[b]? := set8_other s hbg
  refine ⟨b, o, e, ?_, fun j hj => ?_⟩
  · have hsz := (Below.set8 (Below.refl 0 w) (Nat.zero_le g) s).size
    omega
  · rw [World.cell?_of_block (w := w) (a := ⟨b, o + j, none⟩) hs]
    exact hc j hj

/-- a call's answer: a digest under way, the rest in a block of its own -/
def AnsHF (B : Nat) (W' : World) (e : Ending) (s : St) (N : Int) (l : List UInt8) : Prop := ∃ A c, e = .returned (hv s N (.slice A l.length c)) ∧ l.length ≤ c ∧ c ≤ 9223372036854775807 ∧ Rd W' W'.heap.size A l ∧ ∀ p, A = some p → B ≤ p.block

set_option maxRecDepth 100000 in
set_option maxHeartbeats 4000000 in
theorem put_fresh (s : St) (N : Nat) (A C : Option Addr) (l m : List UInt8) (c d : Nat) (w : World) (hl : l.length + m.length ≤ 1000000) (_hlc : l.length ≤ c) (_hmd : m.length ≤ d) (hr : Rd w w.heap.size A l) (hs : Rd w w.heap.size C m) (hk : Ks w) (hN : N + m.length ≤ 1125899906842624) :
    Calls Tryd.prog 43 #[hv s N (.slice A l.length c), .slice C m.length d] w fun e w' => AnsHF w.heap.size w' e (blks s (l ++ m)) ((N + m.length : Nat) : Int) (left (l ++ m)) ∧ Below w.heap.size w w' := by
  have HR := Lib.hid hr
  have HS := Lib.hid hs
  have HKK := Lib.hid hk
  obtain ⟨n, hn⟩ : ∃ n, n = l.length := ⟨_, rfl⟩
  obtain ⟨k, hk⟩ : ∃ k, k = m.length := ⟨_, rfl⟩
  have HN := Lib.hid hn
  have HK := Lib.hid hk
  have hlen : (l ++ m).length = n + k := by rw [List.length_append, hn, hk]
  have HLen := Lib.hid hlen
  have HJ := Lib.hid (fun W h1 h2 => join_any A C l m c d W (by omega) h1 h2)
  have HX := Lib.hid (left_length (l ++ m))
  rw [← hk] at hl hN _hmd HJ ⊢
  rw [← hn] at hl _hlc HJ ⊢
  rw [hlen] at HX
  clear hn hr hs hk hlen
  have HB := Lib.hid (fun A' c' W h1 h2 h3 h4 => blocks_any s A' (l ++ m) c' W (by rw [HLen.out]; omega) h1 h2 h3 h4)
  rw [HLen.out] at HB
  obtain ⟨X, hX⟩ : ∃ X, X = blks s (l ++ m) := ⟨_, rfl⟩
  rw [← hX] at HB ⊢
  clear hX
  obtain ⟨L, hL⟩ : ∃ L, L = left (l ++ m) := ⟨_, rfl⟩
  rw [← hL] at HB HX ⊢
  clear hL
  have hlt : (N : Int) ≤ 1125899906842624 - (k : Int) := by omega
  go_enter Tryd.func43, Tryd.ntmps43
  go_upto_region 3 with (fail)
  obtain ⟨q1, q2, q3, q4⟩ := alloc2 w (.cells (hcells s N (.slice A n c)) 65) (.cells (hcells S00 0 (.slice none 0 0)) 65)
  change Code.wp _ _ _ _ ((w.alloc (.cells (hcells s N (.slice A n c)) 65)).alloc (.cells (hcells S00 0 (.slice none 0 0)) 65))
  generalize (w.alloc (.cells (hcells s N (.slice A n c)) 65)).alloc (.cells (hcells S00 0 (.slice none 0 0)) 65) = w0 at *
  obtain ⟨e0, e1, e2, e3, e4, e5, e6, e7, e8, e9⟩ := cells10 (w := w0.drew) q1
  have hg0 : w.heap.size < w0.heap.size := by omega
  have hg1 : w.heap.size + 1 < w0.heap.size := by omega
  have Q1 := Lib.hid q1
  have Q2 := Lib.hid q2
  have Q4 := Lib.hid q4
  have HK0 := Lib.hid (HKK.out.below q4 HKK.out.1)
  have HR0 := Lib.hid ((HR.out.below q4 (Nat.le_refl _)).more q4.size)
  have HS0 := Lib.hid ((HS.out.below q4 (Nat.le_refl _)).more q4.size)
  clear q1 q2 q3 q4 HR HS HKK
  go_cut [5, 6] (fun v5 v6 wr => ∃ (g5 : Nat) (A' : Option Addr) (c' : Nat), v5 = .pointer (some ⟨g5, 0, none⟩) ∧ v6 = .slice A' ((n + k) % 64) c' ∧ w.heap.size + 1 < g5 ∧ (n + k) % 64 ≤ c' ∧ c' ≤ 9223372036854775807 ∧ Rd wr wr.heap.size A' L ∧ wr.heap[g5]? = some (.cells X.cells 63 (0, 0)) ∧ wr.heap[w.heap.size]? = some (.cells (hcells s N (.slice A n c)) 65 (0, 0)) ∧ wr.heap[w.heap.size + 1]? = some (.cells (hcells S00 0 (.slice none 0 0)) 65 (0, 0)) ∧ Below w.heap.size w wr ∧ w.heap.size + 1 < wr.heap.size)
  case first =>
    go_region_held3 (fun w' => w'.cell? ⟨w.heap.size, 0, none⟩ = some (wv s.a) ∧ w'.cell? ⟨w.heap.size, 1, none⟩ = some (wv s.b) ∧ w'.cell? ⟨w.heap.size, 2, none⟩ = some (wv s.c) ∧ w'.cell? ⟨w.heap.size, 3, none⟩ = some (wv s.d) ∧ w'.cell? ⟨w.heap.size, 4, none⟩ = some (wv s.e) ∧ w'.cell? ⟨w.heap.size, 5, none⟩ = some (wv s.f) ∧ w'.cell? ⟨w.heap.size, 6, none⟩ = some (wv s.g) ∧ w'.cell? ⟨w.heap.size, 7, none⟩ = some (wv s.h) ∧ w'.cell? ⟨w.heap.size, 8, none⟩ = some (.int .i64 (N : Int)) ∧ w'.cell? ⟨w.heap.size, 9, none⟩ = some (.slice A n c))
      (first
       | ((try dsimp only); go_split_ands; refine ⟨?_, ?_, ?_, ?_, ?_, ?_, ?_, ?_, ?_, ?_⟩ <;> with_reducible assumption)
       | ((try dsimp only); go_split_ands; refine ⟨?_, ?_, ?_, ?_, ?_, ?_, ?_, ?_, ?_, ?_⟩ <;> (with_reducible refine far1 ?_ ?_) <;> (first | (with_reducible assumption) | omega))
       | ((try dsimp only); go_split_ands; refine ⟨?_, ?_, ?_, ?_, ?_, ?_, ?_, ?_, ?_, ?_⟩ <;> (with_reducible refine far1d ?_ ?_) <;> (first | (with_reducible assumption) | omega))
       | ((try dsimp only); go_split_ands; refine ⟨?_, ?_, ?_, ?_, ?_, ?_, ?_, ?_, ?_, ?_⟩ <;> (with_reducible refine far8 ?_ ?_) <;> (first | (with_reducible assumption) | omega)))
      (first
      | (go_at_call 47; refine (HJ.out _ ?_ ?_).mono ?_; (first | exact HR0.out | exact Rd.alloc HR0.out _); (first | exact HS0.out | exact Rd.alloc HS0.out _); rintro e w1 ⟨⟨A1, c1, rfl, hc1, hc2, hr1, hfr⟩, hb1⟩; have HFR := Lib.hid hfr; have HR1 := Lib.hid hr1; have KS1 := Lib.hid (Ks.call (by first | exact HK0.out | exact Ks.alloc HK0.out _) hb1); have BB1 := Lib.hid (bel_call (B := w.heap.size) (w := w) (by first | exact Q4.out.drew | exact (Q4.out.alloc (Nat.le_of_lt hg0) _).drew) hb1 (by first | exact Nat.le_of_lt hg0 | (simp only [World.size_alloc, size_drew]; omega))); have RR1 := Lib.hid (old_below (g := w.heap.size + 1) (by first | exact Q2.out | exact old_alloc Q2.out _) hb1 (Nat.le_refl _)); have hz1 := hb1.size; (try simp only [World.size_alloc, size_drew] at hz1); have hq1 := old_below (g := w.heap.size) (by first | exact Q1.out | exact old_alloc Q1.out _) hb1 (Nat.le_refl _); have QQ1 := Lib.hid hq1; obtain ⟨u0, u1, u2, u3, u4, u5, u6, u7, u8, u9⟩ := cells10 hq1; (try (have hq2 := old_below (g := w0.heap.size) (by exact heap_alloc_new w0 (.cells Z8 63)) hb1 (Nat.le_refl _); have ZZ := Lib.hid hq2; clear hq2)); clear hb1 hq1 hr1 hfr)
      | (go_at_call 46; refine (HB.out A1 c1 _ hc1 hc2 ?_ ?_).mono ?_; (first | exact HR1.out | exact Rd.alloc HR1.out _); (first | exact KS1.out | exact Ks.alloc KS1.out _); rintro e w2 ⟨⟨A2, c2, rfl, hd1, hd2, hr2, hab⟩, hb2⟩; have HAB := Lib.hid hab; have HR2 := Lib.hid hr2; have BB2 := Lib.hid (bel_call (B := w.heap.size) (w := w) (by first | exact BB1.out | exact BB1.out.alloc (by omega) _) hb2 (by first | omega | (simp only [World.size_alloc]; omega))); have RR2 := Lib.hid (old_below (g := w.heap.size + 1) (by first | exact RR1.out | exact old_alloc RR1.out _) hb2 (Nat.le_refl _)); have hz2 := hb2.size; (try simp only [World.size_alloc] at hz2); have hq2 := old_below (g := w.heap.size) (by first | exact QQ1.out | exact old_alloc QQ1.out _) hb2 (Nat.le_refl _); have QQ2 := Lib.hid hq2; obtain ⟨v0, v1, v2, v3, v4, v5, v6, v7, v8, v9⟩ := cells10 hq2; (first | (have hq3 := old_below (g := w0.heap.size) (ZZ.out) hb2 (Nat.le_refl _); have ZZ2 := Lib.hid hq3; obtain ⟨⟨z0, z1, z2, z3, z4, z5, z6, z7⟩, y0, y1, y2, y3, y4, y5, y6, y7⟩ := zeros8 hq3; clear hq3) | (have hq3 := old_below (g := w1.heap.size) (by exact heap_alloc_new w1 (.cells Z8 63)) hb2 (Nat.le_refl _); have ZZ2 := Lib.hid hq3; obtain ⟨⟨z0, z1, z2, z3, z4, z5, z6, z7⟩, y0, y1, y2, y3, y4, y5, y6, y7⟩ := zeros8 hq3; clear hq3) | skip); clear hb2 hq2 hr2 hab))
    · go_wp2_with fail
      go_meet
      case rel => exact ⟨w2.heap.size, A2, c2, rfl, rfl, by omega, hd1, hd2, Rd.alloc HR2.out _, heap_alloc_new w2 _, old_alloc QQ2.out _, old_alloc RR2.out _, BB2.out.alloc (by omega) _, by rw [World.size_alloc]; omega⟩
    · go_wp2_with fail
      go_meet
      case rel =>
        refine ⟨w1.heap.size, A2, c2, rfl, rfl, by omega, hd1, hd2, ?_⟩
        exact ⟨Rd.set8 HR2.out X (fun p hp => by
            obtain ⟨q, hq, hqp⟩ := HAB.out p hp
            have := (HFR.out q hq).2
            omega), set8_same X ZZ2.out, (set8_other X (by omega)).trans QQ2.out, (set8_other X (by omega)).trans RR2.out, Below.set8 BB2.out (by omega) X, Nat.lt_of_lt_of_le (show w.heap.size + 1 < w2.heap.size by omega) (Below.set8 (Below.refl 0 w2) (Nat.zero_le _) X).size⟩
    · go_wp2_with fail
      go_meet
      case rel =>
        refine ⟨w0.heap.size, A2, c2, rfl, rfl, by omega, hd1, hd2, ?_⟩
        exact ⟨Rd.set8 HR2.out X (fun p hp => by
            obtain ⟨q, hq, hqp⟩ := HAB.out p hp
            have := (HFR.out q hq).1
            simp only [World.size_alloc, size_drew] at this
            omega), set8_same X ZZ2.out, (set8_other X (by omega)).trans QQ2.out, (set8_other X (by omega)).trans RR2.out, Below.set8 BB2.out (by omega) X, Nat.lt_of_lt_of_le (show w.heap.size + 1 < w2.heap.size by omega) (Below.set8 (Below.refl 0 w2) (Nat.zero_le _) X).size⟩
  case rest =>
    obtain ⟨g5, A', c', hv5, hv6, hg5, hc1, hc2, hrd, hG, hS, hZ, hB, hsz⟩ := hcut
    subst hv5 hv6
    have HO := Lib.hid (fun W h => own_any A' L c' W (by rw [HX.out]; omega) h)
    have ho := HO.out
    rw [HX.out] at ho
    have HOO := Lib.hid ho
    clear ho HO e0 e1 e2 e3 e4 e5 e6 e7 e8 e9
    obtain ⟨e0, e1, e2, e3, e4, e5, e6, e7⟩ := cells8 (w := wc.drew) hG
    obtain ⟨-, -, -, -, -, -, -, -, e8, -⟩ := cells10 (w := wc.drew) hS
    have HRD := Lib.hid hrd
    have HG := Lib.hid hG
    have HS := Lib.hid hS
    have HZ := Lib.hid hZ
    have HBB := Lib.hid hB
    clear hrd hG hS hZ hB
    have hN1 : (0 : Int) ≤ (N : Int) := Int.natCast_nonneg _
    have hN2 : (N : Int) + (k : Int) ≤ 1125899906842624 := by omega
    have hw : IntKind.i64.wrap ((N : Int) + (k : Int)) = (N : Int) + (k : Int) := IntWalk.i64_in _ (by omega)
    have HEN := Lib.hid (show (N : Int) + (k : Int) = ((N + k : Nat) : Int) by omega)
    go_wp2_with fail
    go_region_held3 (fun w' => w'.cell? ⟨g5, 0, none⟩ = some (wv X.a) ∧ w'.cell? ⟨g5, 1, none⟩ = some (wv X.b) ∧ w'.cell? ⟨g5, 2, none⟩ = some (wv X.c) ∧ w'.cell? ⟨g5, 3, none⟩ = some (wv X.d) ∧ w'.cell? ⟨g5, 4, none⟩ = some (wv X.e) ∧ w'.cell? ⟨g5, 5, none⟩ = some (wv X.f) ∧ w'.cell? ⟨g5, 6, none⟩ = some (wv X.g) ∧ w'.cell? ⟨g5, 7, none⟩ = some (wv X.h) ∧ w'.cell? ⟨w.heap.size, 8, none⟩ = some (.int .i64 (N : Int)))
      (first
       | ((try dsimp only); go_split_ands; refine ⟨?_, ?_, ?_, ?_, ?_, ?_, ?_, ?_, ?_⟩ <;> with_reducible assumption)
       | ((try dsimp only); go_split_ands; refine ⟨?_, ?_, ?_, ?_, ?_, ?_, ?_, ?_, ?_⟩ <;> (with_reducible refine far10 ?_ ?_) <;> (first | (with_reducible assumption) | omega)))
      (first
      | (go_at_call 49; refine (HOO.out _ ?_).mono ?_; (exact HRD.out); rintro e w1 ⟨⟨A1, c1, rfl, hd1, hd2, hr1, hfr⟩, hb1⟩; have HR1 := Lib.hid hr1; have HFR := Lib.hid hfr; have BB1 := Lib.hid (bel_call (B := w.heap.size) (w := w) HBB.out.drew hb1 (by exact Nat.le_of_lt (Nat.lt_of_succ_lt hsz))); have hq1 := old_below (g := g5) (by exact HG.out) hb1 (Nat.le_refl _); obtain ⟨v0, v1, v2, v3, v4, v5, v6, v7⟩ := cells8 hq1; have hq3 := old_below (g := w.heap.size) (by exact HS.out) hb1 (Nat.le_refl _); obtain ⟨-, -, -, -, -, -, -, -, v8, -⟩ := cells10 hq3; have hq2 := old_below (g := w.heap.size + 1) (by exact HZ.out) hb1 (Nat.le_refl _); obtain ⟨z0, z1, z2, z3, z4, z5, z6, z7, z8, z9⟩ := cells10 hq2; obtain ⟨y0, y1, y2, y3, y4, y5, y6, y7, y8, y9⟩ := frozen10 hq2; have QQ2 := Lib.hid hq2; clear hb1 hq1 hq2 hq3 hr1 hfr))
    have hA1 : ∀ p, A1 = some p → p.block ≠ w.heap.size + 1 := fun p hp => by
      have := (HFR.out p hp).1
      have h2 : wc.drew.heap.size = wc.heap.size := rfl
      omega
    obtain ⟨r, hr⟩ : ∃ r, r = (n + k) % 64 := ⟨_, rfl⟩
    have HLr := Lib.hid (HX.out.trans hr.symm)
    rw [← hr] at hd1
    rw [← hr]
    rw [← HLr.out] at hd1
    change Exit.then _ _ _ _ (setH w1 (w.heap.size + 1) X ((N : Int) + (k : Int)) (.slice A1 r c1))
    have g1 := setH_same X ((N : Int) + (k : Int)) (.slice A1 r c1) QQ2.out
    have g3 := Below.setH BB1.out (Nat.le_succ w.heap.size) X ((N : Int) + (k : Int)) (.slice A1 r c1)
    have g5' := Rd.setH HR1.out X ((N : Int) + (k : Int)) (.slice A1 r c1) hA1
    generalize setH w1 (w.heap.size + 1) X ((N : Int) + (k : Int)) (.slice A1 r c1) = W3 at *
    have G1 := Lib.hid g1
    have G3 := Lib.hid g3
    have G5 := Lib.hid g5'
    clear g1 g3 g5' hr
    go_wp2_with fail
    (try simp only [Exit.inBlock, Exit.then])
    refine bodyPost_ret (retH rfl _ _ (w.heap.size + 1) X ((N : Int) + (k : Int)) (.slice A1 r c1) rfl G1.out) rfl ?_
    exact ⟨⟨A1, c1, by rw [HLr.out, HEN.out], hd1, hd2, G5.out, fun p hp => by
      have := (HFR.out p hp).1
      have h2 : wc.drew.heap.size = wc.heap.size := rfl
      omega⟩, G3.out⟩
set_option maxRecDepth 100000 in
theorem put_any (s : St) (N : Nat) (A C : Option Addr) (l m : List UInt8) (c d : Nat) (w : World) (hl : l.length + m.length ≤ 1000000) (hlc : l.length ≤ c) (hmd : m.length ≤ d) (hr : Rd w w.heap.size A l) (hs : Rd w w.heap.size C m) (hk : Ks w) (hN : N + m.length ≤ 1125899906842624) :
    Calls Tryd.prog 43 #[hv s N (.slice A l.length c), .slice C m.length d] w fun e w' => AnsH w' e (blks s (l ++ m)) ((N + m.length : Nat) : Int) (left (l ++ m)) ∧ Below w.heap.size w w' :=
  (put_fresh s N A C l m c d w hl hlc hmd hr hs hk hN).mono fun _ _ ⟨⟨A', c', h1, h2, h3, h4, _⟩, h5⟩ => ⟨⟨A', c', h1, h2, h3, h4⟩, h5⟩
end Go.Proofs.YtfppcmhhbheaiaaDoor
