
/- sha.blocks: the words behind all whole blocks, and what is left. -/
import Derived.Test.YtcfncbbdlbdbnaaDoorEnding
namespace Go.Proofs.YtcfncbbdlbdbnaaDoor
open Go.RowKit

theorem frozen8 {w : World} {g : Nat} {t : TypeId} {c : Array Value} (h : w.heap[g]? = some (.cells c t (0, 0))) :
    w.frozen? ⟨g, 0, none⟩ = false ∧ w.frozen? ⟨g, 1, none⟩ = false ∧ w.frozen? ⟨g, 2, none⟩ = false ∧ w.frozen? ⟨g, 3, none⟩ = false ∧ w.frozen? ⟨g, 4, none⟩ = false ∧ w.frozen? ⟨g, 5, none⟩ = false ∧ w.frozen? ⟨g, 6, none⟩ = false ∧ w.frozen? ⟨g, 7, none⟩ = false :=
  have hf := fun j => frozen_of_row w g j _ _ h
  ⟨hf 0, hf 1, hf 2, hf 3, hf 4, hf 5, hf 6, hf 7⟩
theorem set8_st {w : World} {g : Nat} {t : TypeId} (s : St) {s0 : St} (h : w.heap[g]? = some (.cells s0.cells t (0, 0))) : (set8 w g s).heap[g]? = some (.cells s.cells t (0, 0)) := by
  have h0 := heap_setCell_same w g 0 _ t (wv s.a) h
  have h1 := heap_setCell_same _ g 1 _ t (wv s.b) h0
  have h2 := heap_setCell_same _ g 2 _ t (wv s.c) h1
  have h3 := heap_setCell_same _ g 3 _ t (wv s.d) h2
  have h4 := heap_setCell_same _ g 4 _ t (wv s.e) h3
  have h5 := heap_setCell_same _ g 5 _ t (wv s.f) h4
  have h6 := heap_setCell_same _ g 6 _ t (wv s.g) h5
  have h7 := heap_setCell_same _ g 7 _ t (wv s.h) h6
  unfold set8
  rw [h7]
  simp only [List.setIfInBounds_toArray, List.set_cons_zero, List.set_cons_succ, St.cells]

set_option maxRecDepth 100000 in
set_option maxHeartbeats 2000000 in
theorem blocks_any (s : St) (A : Option Addr) (l : List UInt8) (c : Nat) (w : World) (_hl : l.length ≤ 1000000) (hlc : l.length ≤ c) (hc : c ≤ 9223372036854775807) (hr : Rd w w.heap.size A l) (hk : Ks w) :
    Calls Tryd.prog 54 #[s.v, .slice A l.length c] w fun e w' => (∃ A' c', e = .returned (.tuple #[(blks s l).v, .slice A' (l.length % 64) c']) ∧ l.length % 64 ≤ c' ∧ c' ≤ 9223372036854775807 ∧ Rd w' w'.heap.size A' (left l) ∧ ∀ p, A' = some p → ∃ q, A = some q ∧ q.block = p.block) ∧ Below w.heap.size w w' := by
  have HR := Lib.hid hr
  have HK := Lib.hid hk
  obtain ⟨n, hn⟩ : ∃ n, n = l.length := ⟨_, rfl⟩
  have HN := Lib.hid hn
  rw [← hn] at _hl hlc ⊢
  clear hr hk hn
  show Calls Tryd.prog 54 #[.agg #[wv s.a, wv s.b, wv s.c, wv s.d, wv s.e, wv s.f, wv s.g, wv s.h], .slice A n c] w _
  go_enter Tryd.func54, Tryd.ntmps54
  go_wp2
  obtain ⟨q1, q2, q3, q4⟩ := alloc2 w (.cells s.cells 76) (.cells Z8 76)
  unfold Z8 at *
  generalize (w.alloc (.cells #[wv s.a, wv s.b, wv s.c, wv s.d, wv s.e, wv s.f, wv s.g, wv s.h] 76)).alloc (.cells #[.int .u32 0, .int .u32 0, .int .u32 0, .int .u32 0, .int .u32 0, .int .u32 0, .int .u32 0, .int .u32 0] 76) = w0 at *
  have Q1 := Lib.hid q1
  have Q2 := Lib.hid q2
  have Q4 := Lib.hid q4
  clear q1 q2 q4
  go_loopw [1] (fun v wr => ∃ (k m : Nat) (A' : Option Addr) (c' : Nat), Hid (m + 64 * k = n) ∧ v = .slice A' m c' ∧ m ≤ c' ∧ c' ≤ 9223372036854775807 ∧ Rd w w.heap.size A' (l.drop (64 * k)) ∧ wr.heap[w.heap.size]? = some (.cells (blkN s l k).cells 76 (0, 0)) ∧ wr.heap[w.heap.size + 1]? = some (.cells Z8 76 (0, 0)) ∧ Below w.heap.size w wr ∧ w.heap.size + 1 < wr.heap.size ∧ ∀ p, A' = some p → ∃ q, A = some q ∧ q.block = p.block) (fun v _ => match v with | .slice _ m _ => m | _ => 0)
  case atStart => exact ⟨0, n, A, c, Lib.hid (by omega), rfl, hlc, hc, HR.out, Q1.out, Q2.out, Q4.out, by omega, fun p hp => ⟨p, hp, rfl⟩⟩
  case round =>
    clear Q1 Q2 Q4
    obtain ⟨k, m, A', c', hm, rfl, hmc, hc', hrd, hS, hZ, hB, hsz, hab⟩ := hrel
    have HAB := Lib.hid hab
    clear hab
    have HRD := Lib.hid hrd
    have HS := Lib.hid hS
    have HZ := Lib.hid hZ
    have HB := Lib.hid hB
    have HKr := Lib.hid (HK.out.below hB HK.out.1)
    clear hrd hS hZ hB
    have hlen : (l.drop (64 * k)).length = m := by rw [List.length_drop, ← HN.out]; have := hm.out; omega
    have HL := Lib.hid hlen
    clear hlen
    by_cases hlt : 64 ≤ m
    · have h64 : (64 : Int) ≤ (m : Int) := by omega
      have hlt' : 64 ≤ c' := by omega
      have h64c : (64 : Int) ≤ (c' : Int) := by omega
      obtain ⟨S0, hS0⟩ : ∃ x, x = blkN s l k := ⟨_, rfl⟩
      have HN1 := Lib.hid (show blkN s l (k + 1) = compress S0 ((l.drop (64 * k)).take 64) by rw [hS0]; rfl)
      rw [← hS0] at HS
      clear hS0
      have hr64 : Rd w w.heap.size A' ((l.drop (64 * k)).take 64) := fun h0 => by
        obtain ⟨b, o, e, hb, hcell⟩ := HRD.out (by rw [HL.out]; omega)
        refine ⟨b, o, e, hb, fun j hj => ?_⟩
        have hj2 : j < (l.drop (64 * k)).length := by have : j < min 64 (l.drop (64 * k)).length := by simpa using hj
                                                      omega
        rw [hcell j hj2]
        simp
      have HR64 := Lib.hid ((hr64.below HB.out (Nat.le_refl _)).more HB.out.size)
      have HL64 := Lib.hid (show ((l.drop (64 * k)).take 64).length = 64 by rw [List.length_take, HL.out]; omega)
      clear hr64
      generalize (l.drop (64 * k)).take 64 = l64 at *
      obtain ⟨e0, e1, e2, e3, e4, e5, e6, e7⟩ := cells8 (w := wr.drew) HS.out
      go_wp2
      go_region_with (go_at_call 59; refine (block_any S0 A' l64 c' _ HL64.out ?_ ?_).mono ?_; (exact HR64.out); (exact HKr.out); rintro e w2 ⟨rfl, hb2⟩; have hq := old_below (g := w.heap.size) (by exact HS.out) hb2 (Nat.le_refl _); have HQ := Lib.hid hq; obtain ⟨v0, v1, v2, v3, v4, v5, v6, v7⟩ := cells8 hq; obtain ⟨y0, y1, y2, y3, y4, y5, y6, y7⟩ := frozen8 hq; have HB2 := Lib.hid (bel_call (B := w.heap.size) (w := w) (by exact HB.out.drew) hb2 (by exact Nat.le_of_lt (Nat.lt_of_succ_lt hsz))); have HZ2 := Lib.hid (old_below (g := w.heap.size + 1) (by exact HZ.out) hb2 (Nat.le_refl _)); have hsz2 : w.heap.size + 1 < w2.heap.size := Nat.lt_of_lt_of_le hsz hb2.size; clear hb2 hq)
      change Exit.then _ _ _ _ (set8 w2 w.heap.size (compress S0 l64))
      have g1 := set8_st (compress S0 l64) HQ.out
      have g2 := (set8_other (compress S0 l64) (show w.heap.size + 1 ≠ w.heap.size by omega)).trans HZ2.out
      have g3 := Below.set8 HB2.out (Nat.le_refl _) (compress S0 l64)
      have g4 : w.heap.size + 1 < (set8 w2 w.heap.size (compress S0 l64)).heap.size := (Array.getElem?_eq_some_iff.1 g2).1
      generalize set8 w2 w.heap.size (compress S0 l64) = W3 at *
      have G1 := Lib.hid g1
      have G2 := Lib.hid g2
      have G3 := Lib.hid g3
      clear g1 g2 g3 HB2 HZ2 HQ v0 v1 v2 v3 v4 v5 v6 v7 y0 y1 y2 y3 y4 y5 y6 y7 e0 e1 e2 e3 e4 e5 e6 e7
      go_wp2
      go_roundw
      case rel =>
        refine ⟨k + 1, m - 64, _, _, Lib.hid (by have := hm.out; omega), rfl, by omega, by omega, ?_, by rw [HN1.out]; exact G1.out, G2.out, G3.out, g4, fun p hp => by
          by_cases h64 : c' = 64
          · rw [if_pos h64] at hp
            exact HAB.out p hp
          · rw [if_neg h64] at hp
            obtain ⟨q, hq, rfl⟩ := Option.map_eq_some_iff.1 hp
            exact HAB.out q hq⟩
        have h := HRD.out.cut 64 (m - 64) c' (by rw [HL.out]; omega) (by rw [HL.out]; exact hmc)
        have e : ((l.drop (64 * k)).drop 64).take (m - 64) = l.drop (64 * (k + 1)) := by
          rw [List.drop_drop, List.take_of_length_le (by rw [List.length_drop]; have := HL.out; rw [List.length_drop] at this; omega)]
          congr 1
        rw [e] at h
        exact h
      case measure => show m - 64 < m; omega
    · have hk : k = n / 64 ∧ m = n % 64 := by have := hm.out; omega
      obtain ⟨hk1, hk2⟩ := hk
      have r1 := HS.out
      rw [hk1] at r1
      have R1 := Lib.hid r1
      have HE := Lib.hid (show blkN s l (n / 64) = blks s l by unfold blks; rw [← HN.out])
      have HF := Lib.hid (show l.drop (64 * k) = left l by unfold left; rw [← HN.out, hk1])
      have HM := Lib.hid hk2
      rw [HE.out] at R1
      clear r1 hk1 hk2 HS HL
      go_wp2_with (first | (refine load8 wr (.tmp 2) w.heap.size (blks s l) R1.out rfl rfl rfl ?_) | (refine store8 wr (.tmp 4) (.tmp 18) (w.heap.size + 1) (blks s l) _ HZ.out rfl rfl rfl rfl rfl ?_))
      (try simp only [Exit.inBlock, Exit.then])
      refine bodyPost_ret (ret8_2 rfl _ _ (w.heap.size + 1) (blks s l) rfl (setRow_heap _ _ _ _ _ _ HZ.out)) rfl ?_
      have g3 := Below.setRow HB.out (Nat.le_succ w.heap.size) (blks s l).cells
      exact ⟨⟨A', c', by rw [← HM.out]; rfl, by rw [← HM.out]; exact hmc, hc', by rw [← HF.out]; exact (HRD.out.below g3 (Nat.le_refl _)).more g3.size, HAB.out⟩, g3⟩
end Go.Proofs.YtcfncbbdlbdbnaaDoor
