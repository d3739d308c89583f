
/- ProvOnly's walk. -/
import Derived.Test.YtcfncbbdlbdbnaaDoorPrAl
namespace Go.Proofs.YtcfncbbdlbdbnaaDoor
open Go.RowKit

theorem fold_step (W : World) (c : Array Value) (i : Nat) (x : Value) (t : TypeId) : (W.alloc (.cells c t)).setCell ⟨W.heap.size, i, none⟩ x = W.alloc (.cells (c.setIfInBounds i x) t) := by
  simp only [World.setCell, World.alloc]
  congr 1
  apply Array.ext_getElem?
  intro k
  simp only [Array.getElem?_modify]
  by_cases h : W.heap.size = k
  · subst h; simp
  · have h' : ¬ k = W.heap.size := fun e => h e.symm
    simp [h, h', Array.getElem?_push]
set_option maxHeartbeats 2000000 in
theorem fold9 (W : World) (a0 a1 a2 a3 a4 a5 a6 a7 a8 x0 x1 x2 x3 x4 x5 x6 x7 x8 : Value) (t : TypeId) : (((((((((W.alloc (.cells #[a0, a1, a2, a3, a4, a5, a6, a7, a8] t)).setCell ⟨W.heap.size, 0, none⟩ x0).setCell ⟨W.heap.size, 1, none⟩ x1).setCell ⟨W.heap.size, 2, none⟩ x2).setCell ⟨W.heap.size, 3, none⟩ x3).setCell ⟨W.heap.size, 4, none⟩ x4).setCell ⟨W.heap.size, 5, none⟩ x5).setCell ⟨W.heap.size, 6, none⟩ x6).setCell ⟨W.heap.size, 7, none⟩ x7).setCell ⟨W.heap.size, 8, none⟩ x8 = W.alloc (.cells #[x0, x1, x2, x3, x4, x5, x6, x7, x8] t) := by
  have h1 := fold_step W #[a0, a1, a2, a3, a4, a5, a6, a7, a8] 0 x0 t
  have h2 := fold_step W #[x0, a1, a2, a3, a4, a5, a6, a7, a8] 1 x1 t
  have h3 := fold_step W #[x0, x1, a2, a3, a4, a5, a6, a7, a8] 2 x2 t
  have h4 := fold_step W #[x0, x1, x2, a3, a4, a5, a6, a7, a8] 3 x3 t
  have h5 := fold_step W #[x0, x1, x2, x3, a4, a5, a6, a7, a8] 4 x4 t
  have h6 := fold_step W #[x0, x1, x2, x3, x4, a5, a6, a7, a8] 5 x5 t
  have h7 := fold_step W #[x0, x1, x2, x3, x4, x5, a6, a7, a8] 6 x6 t
  have h8 := fold_step W #[x0, x1, x2, x3, x4, x5, x6, a7, a8] 7 x7 t
  have h9 := fold_step W #[x0, x1, x2, x3, x4, x5, x6, x7, a8] 8 x8 t
  simp only [List.setIfInBounds_toArray, List.set_cons_zero, List.set_cons_succ] at h1 h2 h3 h4 h5 h6 h7 h8 h9
  generalize W.heap.size = g at *
  rw [h1, h2, h3, h4, h5, h6, h7, h8, h9]
/-- was the pair at the place j tagged? -/
def hdj (l : List Pr) (j : Nat) : Bool := decide (([UInt8.ofNat (j / 3)], [UInt8.ofNat (j % 3)]) ∈ l)
theorem rowIs_other {w w' : World} {b n : Nat} {t : TypeId} {f : Nat → Value} (h : w.rowIs b t n f) (hk : w'.heap[b]? = w.heap[b]?) : w'.rowIs b t n f := by
  obtain ⟨c, h1, h2, h3⟩ := h
  exact ⟨c, hk.trans h1, h2, h3⟩
theorem rowIs_lt {w : World} {b n : Nat} {t : TypeId} {f : Nat → Value} (h : w.rowIs b t n f) : b < w.heap.size := by
  obtain ⟨c, h1, _⟩ := h
  exact (Array.getElem?_eq_some_iff.1 h1).1
theorem rowIs_below {w w' : World} {b n : Nat} {t : TypeId} {f : Nat → Value} (h : w.rowIs b t n f) (hb : Below w.heap.size w w') : w'.rowIs b t n f := rowIs_other h (hb.block b (rowIs_lt h))
theorem row_cur {w : World} {b n : Nat} {t : TypeId} {f : Nat → Bool} (h : w.rowIs b t n (fun j => .bool (f j))) : ∃ cur, w.heap[b]? = some (.cells cur t (0, 0)) ∧ (∀ (j : Nat) (m : Int), cur[j]? ≠ some (.int .u8 m)) ∧ (∀ (j : Nat) A n c A' n' c', cur[j]? = some (.slice A n c) → cur[j + 1]? ≠ some (.slice A' n' c')) := by
  obtain ⟨c, h1, h2, h3⟩ := h
  have hb : ∀ (j : Nat) (v : Value), c[j]? = some v → ∃ x : Bool, v = Value.bool x := by
    intro j v hv
    have hj : j < n := by rw [← h2]; exact (Array.getElem?_eq_some_iff.1 hv).1
    rw [h3 j hj] at hv
    exact ⟨_, (Option.some.inj hv).symm⟩
  refine ⟨c, h1, fun j m e => ?_, fun j A n c A' n' c' e => ?_⟩
  · obtain ⟨x, hx⟩ := hb j _ e
    cases hx
  · obtain ⟨x, hx⟩ := hb j _ e
    cases hx
theorem u3_lt (x : UInt8) : (x % 3).toNat < 3 := by
  rw [UInt8.toNat_mod]
  exact Nat.mod_lt _ (by decide)
theorem u8_nat (x : UInt8) : UInt8.ofNat x.toNat = x := by simp
theorem hdj_at (l : List Pr) (k b : UInt8) (hk : k.toNat < 3) (hb : b.toNat < 3) : hdj l (3 * k.toNat + b.toNat) = decide (([k], [b]) ∈ l) := by
  unfold hdj
  rw [show (3 * k.toNat + b.toNat) / 3 = k.toNat by omega, show (3 * k.toNat + b.toNat) % 3 = b.toNat by omega, u8_nat, u8_nat]
theorem hdj_next (l : List Pr) (k b : UInt8) (hk : k.toNat < 3) (hb : b.toNat < 3) (j : Nat) (hj : j < 9) : hdj (tabF l [k] [b]) j = if j = 3 * k.toNat + b.toNat then true else hdj l j := by
  split
  · rename_i h
    rw [h, hdj_at _ k b hk hb]
    refine decide_eq_true ?_
    unfold tabF
    split
    · assumption
    · simp
  · rename_i h
    have hne : ¬ ((([UInt8.ofNat (j / 3)], [UInt8.ofNat (j % 3)]) : Pr) = ([k], [b])) := by
      intro e
      simp only [Prod.mk.injEq, List.cons.injEq, and_true] at e
      have e1 := congrArg UInt8.toNat e.1
      have e2 := congrArg UInt8.toNat e.2
      rw [UInt8.toNat_ofNat'] at e1 e2
      omega
    unfold hdj tabF
    rw [Bool.eq_iff_iff]
    simp only [decide_eq_true_eq]
    split
    · exact Iff.rfl
    · simp [hne]

/-- what holds between two questions -/
def InvO (W wr : World) (g4 g5 j : Nat) (l : List Pr) (f : Bool) (gs : List (List UInt8)) (A : Option Addr) (n c : Nat) (G : Option Addr) (m d : Nat) : Prop :=
  Below W.heap.size W wr ∧ wr.heap[g4]? = some (.cells (pcs true A n c f) 24 (0, 0)) ∧ wr.rowIs g5 47 9 (fun j => .bool (hdj l j)) ∧ n = l.length ∧ (n ≤ c ∧ c ≤ 9223372036854775807) ∧ Tab wr wr.heap.size A l ∧
  m = gs.length ∧ (m ≤ d ∧ d ≤ 9223372036854775807) ∧ Mat wr wr.heap.size G gs ∧ (∀ p, G = some p → p.block < wr.heap.size ∧ p.block ≠ g4 ∧ p.block ≠ g5) ∧ n ≤ j ∧ m ≤ j ∧ (∀ g ∈ gs, g.length ≤ 60) ∧ W.heap.size ≤ g4 ∧ W.heap.size ≤ g5 ∧ g4 ≠ g5

set_option maxRecDepth 100000 in
set_option maxHeartbeats 16000000 in
theorem provOnly_walk (L : Option Addr) (ls : List Qn) (lc : Nat) (W : World) (hlc : ls.length ≤ lc) (hlm : lc ≤ 9223372036854775807) (hA : Asks W W.heap.size L ls) (hK : Ks W) :
    Calls Tryd.prog 5 #[.slice L ls.length lc] W fun e W' => e = .returned (.bool true) ∧ Below W.heap.size W W' := by
  have hf3 := fold3
  have hf9 := fold9
  have KB := Lib.hid (fun w (h : Below W.heap.size W w) => Ks.call hK h)
  obtain ⟨N, hN⟩ : ∃ n, n = ls.length := ⟨_, rfl⟩
  have HN := Lib.hid hN
  have hN63 : N ≤ 9223372036854775807 := by omega
  rw [← hN]
  have HA := Lib.hid hA
  clear hK hA hN hlc hlm
  by_cases h20 : 20 < N
  · have hi : (20 : Int) < (N : Int) := by omega
    go_enter Tryd.func5, Tryd.ntmps5
    go_wp2_with fail
    refine (shown4_any _ (KB.out _ (Below.refl _ _))).mono ?_
    rintro e w1 ⟨rfl, hb1⟩
    have HB := Lib.hid hb1
    clear hb1
    go_wp2_with fail
    go_ret
    exact ⟨rfl, HB.out⟩
  have hi : ¬ (20 : Int) < (N : Int) := by omega
  go_enter Tryd.func5, Tryd.ntmps5
  go_wp2_with fail
  refine (shown4_any _ (KB.out _ (Below.refl _ _))).mono ?_
  rintro e w1 ⟨rfl, hb1⟩
  have HB1 := Lib.hid hb1
  clear hb1
  go_wp2_with fail
  refine (new4_any true _).mono ?_
  rintro e w2 ⟨rfl, hb2⟩
  have HB2 := Lib.hid (bel_call HB1.out hb2 HB1.out.size)
  clear hb2 HB1
  obtain ⟨q1, q2, q3, q4, q5⟩ := alloc3 w2 (.cells (pcs true none 0 0 false) 24) (.cells #[.bool false, .bool false, .bool false, .bool false, .bool false, .bool false, .bool false, .bool false, .bool false] 47) (.cells #[] 25)
  have b4 := bel_call HB2.out q5 HB2.out.size
  obtain ⟨V, hV⟩ : ∃ V, V = ((w2.alloc (.cells (pcs true none 0 0 false) 24)).alloc (.cells #[.bool false, .bool false, .bool false, .bool false, .bool false, .bool false, .bool false, .bool false, .bool false] 47)).alloc (.cells #[] 25) := ⟨_, rfl⟩
  rw [← hV] at q1 q2 q3 q4 b4
  obtain ⟨g4, hg4⟩ : ∃ g, g = w2.heap.size := ⟨_, rfl⟩
  obtain ⟨g5, hg5⟩ : ∃ g, g = w2.heap.size + 1 := ⟨_, rfl⟩
  have HI0 := Lib.hid (show InvO W V g4 g5 0 [] false [] none 0 0 (some ⟨g5 + 1, 0, none⟩) 0 0 from by
    rw [← hg4] at q1
    rw [← hg5] at q2
    exact ⟨b4, q1, ⟨_, q2, rfl, fun i hi => by
      have h9 : i = 0 ∨ i = 1 ∨ i = 2 ∨ i = 3 ∨ i = 4 ∨ i = 5 ∨ i = 6 ∨ i = 7 ∨ i = 8 := by omega
      rcases h9 with rfl | rfl | rfl | rfl | rfl | rfl | rfl | rfl | rfl <;> rfl⟩, rfl, ⟨by omega, by omega⟩, Tab.nil, rfl, ⟨by omega, by omega⟩, fun h => absurd h (by simp), fun p hp => by cases hp; exact ⟨by show g5 + 1 < _; omega, by show g5 + 1 ≠ _; omega, by show g5 + 1 ≠ _; omega⟩, by omega, by omega, by simp, by have := HB2.out.size; omega, by have := HB2.out.size; omega, by omega⟩)
  have HV := Lib.hid hV
  have HG4 := Lib.hid hg4
  have HG5 := Lib.hid hg5
  clear q1 q2 q3 q4 q5 b4 hV hg4 hg5 HB2
  go_wp2_with fail
  rw [← HV.out, ← HG5.out, ← HG4.out]
  clear HV HG4 HG5
  go_loopw [6, 7] (fun u iv wr => ∃ (j : Nat) (l : List Pr) (f : Bool) (gs : List (List UInt8)) (A : Option Addr) (n c : Nat) (G : Option Addr) (m d : Nat), j ≤ N ∧ iv = .int .i64 j ∧ u = .slice G m d ∧ Hid (InvO W wr g4 g5 j l f gs A n c G m d)) (fun _ iv _ => N - (intOf iv).toNat)
  case atStart => exact ⟨0, [], false, [], none, 0, 0, _, 0, 0, by omega, rfl, rfl, HI0⟩
  case round =>
    clear HI0
    obtain ⟨j, l, f, gs, A, n, c, G, m, d, hj, rfl, rfl, HI⟩ := hrel
    obtain ⟨hB, h4, h5, hnl, ⟨hc1, hc2⟩, hTA, hml, ⟨hd1, hd2⟩, hMG, hG, hnj, hmj, h60, hW4, hW5, h45⟩ := HI.out
    have BW := Lib.hid hB
    by_cases hlt : j < N
    · skip
      have hjl : j < ls.length := by have := HN.out; omega
      obtain ⟨bq, oq, rfl, hbq, hrow⟩ := HA.out (by omega)
      obtain ⟨T, tc, k0, k1', k2, k3, t1, t2, t3⟩ := hrow j hjl
      obtain ⟨q, hq⟩ : ∃ q, q = ls[j] := ⟨_, rfl⟩
      rw [← hq] at k0 k1' k2 k3 t1 t3
      have RQ := Lib.hid (fun w (h : Below W.heap.size W w) => (⟨(h.cell (p := ⟨bq, oq + j * 4, none⟩) hbq).trans k0, (h.cell (p := ⟨bq, oq + j * 4 + 1, none⟩) hbq).trans k1', (h.cell (p := ⟨bq, oq + j * 4 + 2, none⟩) hbq).trans k2, (h.cell (p := ⟨bq, oq + j * 4 + 3, none⟩) hbq).trans k3⟩ : w.cell? ⟨bq, oq + j * 4, none⟩ = some (.int .u8 (q.kd.toNat : Int)) ∧ w.cell? ⟨bq, oq + j * 4 + 1, none⟩ = some (.int .u8 (q.ky.toNat : Int)) ∧ w.cell? ⟨bq, oq + j * 4 + 2, none⟩ = some (.int .u8 (q.bb.toNat : Int)) ∧ w.cell? ⟨bq, oq + j * 4 + 3, none⟩ = some (.slice T q.tag.length tc)))
      have RT := Lib.hid (fun w (h : Below W.heap.size W w) => (t3.below h (Nat.le_refl _)).more h.size)
      obtain ⟨tn, htn⟩ : ∃ n, n = q.tag.length := ⟨_, rfl⟩
      rw [← htn] at RQ
      have HTN := Lib.hid htn
      have hji : (j : Int) < (N : Int) := by omega
      have hj0 : (0 : Int) ≤ (j : Int) := Int.natCast_nonneg _
      obtain ⟨s0, s1, s2, s3⟩ := RQ.out _ BW.out
      have htn63 : tn ≤ 9223372036854775807 := by omega
      clear k0 k1' k2 k3 hrow hq hjl
      by_cases h6 : 60 < tn
      · have i6 : (60 : Int) < (tn : Int) := by omega
        clear h4 h5 hTA hMG hG HI hB t1 t3 htn
        go_wp2_with fail
        go_ret
        exact ⟨rfl, BW.out⟩
      have i6 : ¬ (60 : Int) < (tn : Int) := by omega
      obtain ⟨k1, hk1⟩ : ∃ k, k = q.ky % 3 := ⟨_, rfl⟩
      obtain ⟨b1, hb1⟩ : ∃ k, k = q.bb % 3 := ⟨_, rfl⟩
      have hk3 : k1.toNat < 3 := by rw [hk1]; exact u3_lt _
      have hb3 : b1.toNat < 3 := by rw [hb1]; exact u3_lt _
      have ek1 : (q.ky.toNat : Int).tmod 3 = (k1.toNat : Int) := by rw [hk1, u8_mod3]; exact Int.tmod_eq_emod_of_nonneg (by omega)
      have ek2 : (q.ky.toNat : Int) % 3 = (k1.toNat : Int) := by rw [hk1, u8_mod3]
      have eb1 : (q.bb.toNat : Int).tmod 3 = (b1.toNat : Int) := by rw [hb1, u8_mod3]; exact Int.tmod_eq_emod_of_nonneg (by omega)
      have eb2 : (q.bb.toNat : Int) % 3 = (b1.toNat : Int) := by rw [hb1, u8_mod3]
      obtain ⟨kk, hkk⟩ : ∃ x, x = k1.toNat := ⟨_, rfl⟩
      obtain ⟨bb, hbb⟩ : ∃ x, x = b1.toNat := ⟨_, rfl⟩
      obtain ⟨at3, hat3⟩ : ∃ x, x = kk * 3 := ⟨_, rfl⟩
      obtain ⟨at9, hat9e⟩ : ∃ x, x = at3 + bb := ⟨_, rfl⟩
      rw [← hkk] at ek1 ek2
      rw [← hbb] at eb1 eb2
      have ew1 : IntKind.i64.wrap ((kk : Int) * 3) = (at3 : Int) := by rw [IntKind.wrap_i64]; omega
      have ew2 : IntKind.i64.wrap ((at3 : Int) + (bb : Int)) = (at9 : Int) := by rw [IntKind.wrap_i64]; omega
      have hat : at9 = 3 * k1.toNat + b1.toNat := by omega
      have hat9 : at9 < 9 := by omega
      have ia0 : (0 : Int) ≤ (at9 : Int) := Int.natCast_nonneg _
      have ia9 : (at9 : Int) < 9 := by omega
      have HK3 := Lib.hid hk3
      have HB3 := Lib.hid hb3
      have HAT := Lib.hid hat
      have HK1 := Lib.hid hk1
      have HBB1 := Lib.hid hb1
      have HNL := Lib.hid hnl
      have HML := Lib.hid hml
      clear hk1 hb1 hkk hbb hat3 hat9e hk3 hb3 hat hnl hml htn
      go_wp2
      go_quiet (fail)
      obtain ⟨V0, hV0⟩ : ∃ x, x = wr.drewN nq := ⟨_, rfl⟩
      have GP4 := Lib.hid (show V0.heap[g4]? = some (.cells (pcs true A n c f) 24 (0, 0)) from by rw [hV0]; exact h4)
      have GR := Lib.hid (show V0.rowIs g5 47 9 (fun j => .bool (hdj l j)) from by rw [hV0]; exact h5)
      have hTA0 : Tab V0 V0.heap.size A l := by rw [hV0]; exact hTA
      have hMG0 : Mat V0 V0.heap.size G gs := by rw [hV0]; exact hMG
      have HG := Lib.hid (show ∀ p, G = some p → p.block < V0.heap.size ∧ p.block ≠ g4 ∧ p.block ≠ g5 from by rw [hV0]; exact hG)
      have nBW := Lib.hid (show Below W.heap.size W V0 from by rw [hV0]; exact below_drewN hB nq)
      go_wp2_with fail
      rw [← hV0]
      clear hV0 h4 h5 hTA hMG hG HI hB BW s0 s1 s2 s3 ek1 ek2 eb1 eb2 ew1 ew2
      have BW := nBW
      clear nBW
      have l4 : g4 < V0.heap.size := (Array.getElem?_eq_some_iff.1 GP4.out).1
      have l5 : g5 < V0.heap.size := rowIs_lt GR.out
      obtain ⟨L1, hL1⟩ : ∃ x, x = qL l q := ⟨_, rfl⟩
      obtain ⟨F1, hF1⟩ : ∃ x, x = qF l f gs q := ⟨_, rfl⟩
      obtain ⟨Ya, hYa⟩ : ∃ x, x = qY true l gs q := ⟨_, rfl⟩
      obtain ⟨GS, hGS⟩ : ∃ x, x = qG gs q := ⟨_, rfl⟩
      obtain ⟨N1, hN1⟩ : ∃ x, x = L1.length := ⟨_, rfl⟩
      obtain ⟨M1, hM1⟩ : ∃ x, x = GS.length := ⟨_, rfl⟩
      obtain ⟨H, hH⟩ : ∃ x, x = hdj l at9 := ⟨_, rfl⟩
      obtain ⟨R, hR⟩ : ∃ x, x = decide (qT gs q = cutF (qK q) (qB q)) := ⟨_, rfl⟩
      have eqK : qK q = [k1] := by rw [HK1.out]; rfl
      have eqB : qB q = [b1] := by rw [HBB1.out]; rfl
      have hH2 : decide ((qK q, qB q) ∈ l) = H := by rw [hH, HAT.out, hdj_at l k1 b1 HK3.out HB3.out, eqK, eqB]
      have HF := Lib.hid (show F1 = if q.kd.toNat % 4 = 0 then f else (f || (R && !H)) from by rw [hF1, hR]; unfold qF; rw [hH2])
      have HY := Lib.hid (show Ya = if q.kd.toNat % 4 = 0 then true else (R && H) from by rw [hYa, hR]; unfold qY; rw [hH2]; simp)
      have HR1 := Lib.hid (show q.kd.toNat % 4 = 1 → R = true from fun h => by rw [hR]; refine decide_eq_true ?_; unfold qT; rw [if_pos h])
      have HROW := Lib.hid (show ∀ i, i < 9 → hdj L1 i = if i = at9 then (H || decide (q.kd.toNat % 4 = 0)) else hdj l i from fun i hi => by
        rw [hL1]
        unfold qL
        by_cases h0 : q.kd.toNat % 4 = 0
        · rw [if_pos h0, eqK, eqB, hdj_next l k1 b1 HK3.out HB3.out i hi, ← HAT.out, decide_eq_true h0, Bool.or_true]
        · rw [if_neg h0, decide_eq_false h0, Bool.or_false]
          split
          · rename_i h; rw [h, hH]
          · rfl)
      have HNJ := Lib.hid (show N1 ≤ j + 1 by have := qL_len l q; have := HNL.out; rw [hN1, hL1]; omega)
      have HMJ := Lib.hid (show M1 ≤ j + 1 by have := qG_len gs q; have := HML.out; rw [hM1, hGS]; omega)
      have H60 := Lib.hid (show ∀ g ∈ GS, g.length ≤ 60 by rw [hGS]; exact qG_60 gs q h60)
      have CA := Lib.hid (fun w (h : Below V0.heap.size V0 w) => show Calls Tryd.prog 22 #[.agg #[.bool true, .slice A n c, .bool f], .agg #[.int .u8 (q.kd.toNat : Int), .int .u8 (q.ky.toNat : Int), .int .u8 (q.bb.toNat : Int), .slice T tn tc], .slice G m d] w fun e W' => AnsA G w.heap.size W' e true L1 F1 Ya GS ∧ Below w.heap.size w W' from by
        have hw := bel_call BW.out h BW.out.size
        have hnl := HNL.out
        have hml := HML.out
        have htn := HTN.out
        rw [hL1, hF1, hYa, hGS, HNL.out, HML.out, HTN.out]
        exact asked_any true f A l c q T tc G gs d w (by omega) hc2 (by omega) (by omega) t1 t2 (by omega) h60 (by omega) hd2 ((hTA0.below h (Nat.le_refl _)).more h.size) (RT.out w hw) ((hMG0.below h (Nat.le_refl _)).more h.size) (KB.out w hw))
      have HN1 := Lib.hid hN1
      have HM1 := Lib.hid hM1
      have HHv := Lib.hid hH
      clear hTA0 hMG0 t1 t3 hL1 hF1 hYa hGS hN1 hM1 HNL HML h60 hH hR hH2 eqK eqB
      have HBZ := Lib.hid (show V0.heap.size < (V0.alloc (.cells #[.bool false, .slice none 0 0, .bool false] 24)).drew.heap.size from by show _ < (V0.alloc _).heap.size; rw [World.size_alloc]; omega)
      have F0 := Lib.hid (fun w (h : Below V0.heap.size V0 w) => bel_call BW.out h BW.out.size)
      have BB0 := Lib.hid ((Below.refl V0.heap.size V0).drew)
      have BA := Lib.hid (((Below.refl V0.heap.size V0).alloc (Nat.le_refl _) (.cells #[.bool false, .slice none 0 0, .bool false] 24)).drew)
      have KEEP := Lib.hid (show ∀ w', Below V0.heap.size V0 w' → (Below V0.heap.size V0 w' ∧ w'.cell? ⟨g4, 0, none⟩ = some (.bool true) ∧ w'.cell? ⟨g4, 1, none⟩ = some (.slice A n c) ∧ w'.cell? ⟨g4, 2, none⟩ = some (.bool f) ∧ w'.cell? ⟨bq, oq + j * 4, none⟩ = some (.int .u8 (q.kd.toNat : Int)) ∧ w'.cell? ⟨bq, oq + j * 4 + 1, none⟩ = some (.int .u8 (q.ky.toNat : Int)) ∧ w'.cell? ⟨bq, oq + j * 4 + 2, none⟩ = some (.int .u8 (q.bb.toNat : Int)) ∧ w'.cell? ⟨bq, oq + j * 4 + 3, none⟩ = some (.slice T tn tc)) from fun w' h => by
        obtain ⟨a0, a1', a2'⟩ := cells3 (old_below GP4.out h (Nat.le_refl _))
        exact ⟨h, a0, a1', a2', RQ.out _ (F0.out _ h)⟩)
      go_cut [9, 10, 11] (fun v u s wx => ∃ g A1 c1 G1 d1, v = .pointer (some ⟨g, 0, none⟩) ∧ u = .bool Ya ∧ s = .slice G1 M1 d1 ∧ wx.heap[g]? = some (.cells (pcs true A1 N1 c1 F1) 24 (0, 0)) ∧ V0.heap.size ≤ g ∧ (N1 ≤ c1 ∧ c1 ≤ 9223372036854775807) ∧ (M1 ≤ d1 ∧ d1 ≤ 9223372036854775807) ∧ Tab wx wx.heap.size A1 L1 ∧ Mat wx wx.heap.size G1 GS ∧ (∀ p, G1 = some p → p.block < wx.heap.size ∧ p.block ≠ g4 ∧ p.block ≠ g5) ∧ Below V0.heap.size V0 wx)
      case first =>
        go_region_held3 (fun w' => Below V0.heap.size V0 w' ∧ w'.cell? ⟨g4, 0, none⟩ = some (.bool true) ∧ w'.cell? ⟨g4, 1, none⟩ = some (.slice A n c) ∧ w'.cell? ⟨g4, 2, none⟩ = some (.bool f) ∧ w'.cell? ⟨bq, oq + j * 4, none⟩ = some (.int .u8 (q.kd.toNat : Int)) ∧ w'.cell? ⟨bq, oq + j * 4 + 1, none⟩ = some (.int .u8 (q.ky.toNat : Int)) ∧ w'.cell? ⟨bq, oq + j * 4 + 2, none⟩ = some (.int .u8 (q.bb.toNat : Int)) ∧ w'.cell? ⟨bq, oq + j * 4 + 3, none⟩ = some (.slice T tn tc))
          (first | with_reducible exact KEEP.out _ BB0.out | with_reducible exact KEEP.out _ BA.out | with_reducible exact KEEP.out _ BB1.out | with_reducible exact KEEP.out _ (BB1.out.alloc hs1 _) | exact KEEP.out _ (Below.set3 BB1.out (Nat.le_refl _) _ _ _))
          (first
          | (go_at_call 22; (with_reducible refine (CA.out _ ?_).mono ?_); (first | with_reducible exact BB0.out | with_reducible exact BA.out); rintro e ww1 ⟨⟨n1, A1, c1, m1, G1, d1, rfl, hn1, q1, q2, hm1, q3, q4, hT1, hM1, hG1⟩, hb⟩; have BB1 := Lib.hid (by first | with_reducible exact bel_call BB0.out hb BB0.out.size | with_reducible exact bel_call BA.out hb BA.out.size); have hs1 : V0.heap.size ≤ ww1.heap.size := BB1.out.size; (first | (have hz := old_below (g := V0.heap.size) (by exact heap_alloc_new V0 (.cells #[.bool false, .slice none 0 0, .bool false] 24)) hb (Nat.le_refl _); have ZZ1 := Lib.hid hz; obtain ⟨z0, z1, z2⟩ := cells3 hz; obtain ⟨y0, y1, y2⟩ := frozen3 hz; clear hz) | skip); have h9 : N1 = n1 := (hn1.trans HN1.out.symm).symm; clear hn1; subst h9; have h9 : M1 = m1 := (hm1.trans HM1.out.symm).symm; clear hm1; subst h9; have HT := Lib.hid hT1; have HM := Lib.hid hM1; have HGa := Lib.hid (gblock hG1 HG.out l4 l5 (by first | with_reducible exact BB0.out.size | with_reducible exact BA.out.size) hs1); (first | (have hz9 := gblock_z hG1 HG.out HBZ.out; have HGz := Lib.hid hz9; clear hz9) | skip); clear hT1 hM1 hG1; clear hb))
        all_goals
          go_wp2_with fail
          go_meet
          case rel => first
            | (refine ⟨ww1.heap.size, A1, c1, G1, d1, by with_reducible rfl, by with_reducible rfl, by with_reducible rfl, heap_alloc_new ww1 _, hs1, ⟨q1, q2⟩, ⟨q3, q4⟩, HT.out.al _, HM.out.al _, fun p hp => ⟨by rw [World.size_alloc]; have := (HGa.out p hp).1; omega, (HGa.out p hp).2⟩, BB1.out.alloc hs1 _⟩)
            | (refine ⟨V0.heap.size, A1, c1, G1, d1, by with_reducible rfl, by with_reducible rfl, by with_reducible rfl, set3_same (.bool true) (.slice A1 N1 c1) (.bool F1) ZZ1.out, (Nat.le_refl _), ⟨q1, q2⟩, ⟨q3, q4⟩, HT.out.put ZZ1.out (.bool true) (.slice A1 N1 c1) (.bool F1), HM.out.put ZZ1.out HGz.out (.bool true) (.slice A1 N1 c1) (.bool F1), fun p hp => ⟨Nat.lt_of_lt_of_eq (HGa.out p hp).1 (set3_size ww1 _ (.bool true) (.slice A1 N1 c1) (.bool F1)).symm, (HGa.out p hp).2⟩, Below.set3 BB1.out (Nat.le_refl _) (.bool true) (.slice A1 N1 c1) (.bool F1)⟩)
      case rest =>
      obtain ⟨g9, A1, c1, G1, d1, rfl, rfl, rfl, hg, hgl, ⟨e1, e2⟩, ⟨e3, e4⟩, hT, hM, hGb, hB⟩ := hcut
      obtain ⟨V1, hV1⟩ : ∃ x, x = wc := ⟨_, rfl⟩
      rw [← hV1] at hg hT hM hGb hB
      rw [← hV1]
      have p4 := old_below GP4.out hB (Nat.le_refl _)
      have row := rowIs_below GR.out hB
      have bw := bel_call BW.out hB BW.out.size
      have n94 : g9 ≠ g4 := by omega
      have n95 : g9 ≠ g5 := by omega
      have HROWV := Lib.hid row
      obtain ⟨cur, hcur, hno, hns⟩ := row_cur (f := hdj l) row
      have r9 := row.cell (i := at9) hat9
      have f9 := row.frozen at9
      simp only [← HHv.out] at r9
      obtain ⟨x0, x1, x2⟩ := cells3 hg
      obtain ⟨y0, y1, y2⟩ := cells3 p4
      obtain ⟨z0, z1, z2⟩ := frozen3 p4
      obtain ⟨s0, s1, s2, s3⟩ := RQ.out _ bw
      have H9 := Lib.hid hg
      have HP4 := Lib.hid p4
      have HT := Lib.hid hT
      have HM := Lib.hid hM
      have HGb := Lib.hid hGb
      have HBW := Lib.hid bw
      have HCUR := Lib.hid hcur
      have HNO := Lib.hid hno
      have HNS := Lib.hid hns
      clear hV1 hg hgl hT hM hGb hB BB0 BA KEEP F0 GP4 GR BW HG HBZ l4 l5 CA p4 row bw hcur hno hns
      have h4 : q.kd.toNat % 4 = 0 ∨ q.kd.toNat % 4 = 1 ∨ q.kd.toNat % 4 = 2 ∨ q.kd.toNat % 4 = 3 := by omega
      rcases h4 with hk4 | hk4 | hk4 | hk4
      · skip
        have ed1 : (q.kd.toNat : Int).tmod 4 = 0 := by rw [Int.tmod_eq_emod_of_nonneg (by omega)]; omega
        have ed2 : (q.kd.toNat : Int) % 4 = 0 := by omega
        cases H
        · cases f
          · skip
            obtain rfl : F1 = false := by rw [HF.out]; simp [hk4]
            obtain rfl : Ya = true := by rw [HY.out]; simp [hk4]
            clear HF HY HR1
            -- the two stores
            have hoth : ∀ k, k ≠ g5 → (V1.setCell ⟨g5, at9, none⟩ (.bool true)).heap[k]? = V1.heap[k]? := fun k hk => heap_setCell_other _ _ _ _ hk
            have o4 := (hoth g4 h45).trans HP4.out
            have o9 := (hoth g9 n95).trans H9.out
            have orow := (HROWV.out.set at9 (.bool true)).congr (g := fun i => .bool (hdj L1 i)) (fun i hi => by rw [HROW.out i hi, decide_eq_true hk4]; split <;> simp)
            have ota := HT.out.apart HCUR.out HNO.out HNS.out hoth
            have oma := HM.out.far HCUR.out HNO.out (fun p hp => (HGb.out p hp).2.2) hoth
            have obw := HBW.out.setCell (p := ⟨g5, at9, none⟩) hW5 (.bool true)
            have osz : (V1.setCell ⟨g5, at9, none⟩ (.bool true)).heap.size = V1.heap.size := by simp [World.setCell]
            rw [← osz] at ota oma
            have s4 := set3_same (.bool true) (.slice A1 N1 c1) (.bool false) o4
            have srow := rowIs_other orow (set3_other (g := g4) (.bool true) (.slice A1 N1 c1) (.bool false) h45.symm)
            have sta := ota.put o4 (.bool true) (.slice A1 N1 c1) (.bool false)
            have sma := oma.put o4 (fun p hp => (HGb.out p hp).2.1) (.bool true) (.slice A1 N1 c1) (.bool false)
            have sbw := Below.set3 obw hW4 (.bool true) (.slice A1 N1 c1) (.bool false)
            have ssz := set3_size (V1.setCell ⟨g5, at9, none⟩ (.bool true)) g4 (.bool true) (.slice A1 N1 c1) (.bool false)
            have HEND := Lib.hid (show InvO W (set3 (V1.setCell ⟨g5, at9, none⟩ (.bool true)) g4 (.bool true) (.slice A1 N1 c1) (.bool false)) g4 g5 (j + 1) L1 false GS A1 N1 c1 G1 M1 d1 from
              ⟨sbw, s4, srow, HN1.out, ⟨e1, e2⟩, sta, HM1.out, ⟨e3, e4⟩, sma, fun p hp => ⟨by rw [ssz, osz]; exact (HGb.out p hp).1, (HGb.out p hp).2⟩, HNJ.out, HMJ.out, H60.out, hW4, hW5, h45⟩)
            obtain ⟨u0, u1, u2⟩ := cells3 o9
            obtain ⟨v0, v1, v2⟩ := cells3 o4
            obtain ⟨w0, w1', w2'⟩ := frozen3 o4
            clear hoth o4 o9 orow ota oma obw osz s4 srow sta sma sbw ssz HROWV HT HM HBW HCUR HNO HNS HP4 H9 HROW
            go_wp2_with fail
            go_roundw
            case rel => exact ⟨j + 1, L1, false, GS, A1, N1, c1, G1, M1, d1, by omega, by go_num, rfl, HEND⟩
            case measure => simp [intOf]; omega
          · skip
            obtain rfl : F1 = true := by rw [HF.out]; simp [hk4]
            obtain rfl : Ya = true := by rw [HY.out]; simp [hk4]
            clear HF HY HR1
            -- the two stores
            have hoth : ∀ k, k ≠ g5 → (V1.setCell ⟨g5, at9, none⟩ (.bool true)).heap[k]? = V1.heap[k]? := fun k hk => heap_setCell_other _ _ _ _ hk
            have o4 := (hoth g4 h45).trans HP4.out
            have o9 := (hoth g9 n95).trans H9.out
            have orow := (HROWV.out.set at9 (.bool true)).congr (g := fun i => .bool (hdj L1 i)) (fun i hi => by rw [HROW.out i hi, decide_eq_true hk4]; split <;> simp)
            have ota := HT.out.apart HCUR.out HNO.out HNS.out hoth
            have oma := HM.out.far HCUR.out HNO.out (fun p hp => (HGb.out p hp).2.2) hoth
            have obw := HBW.out.setCell (p := ⟨g5, at9, none⟩) hW5 (.bool true)
            have osz : (V1.setCell ⟨g5, at9, none⟩ (.bool true)).heap.size = V1.heap.size := by simp [World.setCell]
            rw [← osz] at ota oma
            have s4 := set3_same (.bool true) (.slice A1 N1 c1) (.bool true) o4
            have srow := rowIs_other orow (set3_other (g := g4) (.bool true) (.slice A1 N1 c1) (.bool true) h45.symm)
            have sta := ota.put o4 (.bool true) (.slice A1 N1 c1) (.bool true)
            have sma := oma.put o4 (fun p hp => (HGb.out p hp).2.1) (.bool true) (.slice A1 N1 c1) (.bool true)
            have sbw := Below.set3 obw hW4 (.bool true) (.slice A1 N1 c1) (.bool true)
            have ssz := set3_size (V1.setCell ⟨g5, at9, none⟩ (.bool true)) g4 (.bool true) (.slice A1 N1 c1) (.bool true)
            have HEND := Lib.hid (show InvO W (set3 (V1.setCell ⟨g5, at9, none⟩ (.bool true)) g4 (.bool true) (.slice A1 N1 c1) (.bool true)) g4 g5 (j + 1) L1 true GS A1 N1 c1 G1 M1 d1 from
              ⟨sbw, s4, srow, HN1.out, ⟨e1, e2⟩, sta, HM1.out, ⟨e3, e4⟩, sma, fun p hp => ⟨by rw [ssz, osz]; exact (HGb.out p hp).1, (HGb.out p hp).2⟩, HNJ.out, HMJ.out, H60.out, hW4, hW5, h45⟩)
            obtain ⟨u0, u1, u2⟩ := cells3 o9
            obtain ⟨v0, v1, v2⟩ := cells3 o4
            obtain ⟨w0, w1', w2'⟩ := frozen3 o4
            clear hoth o4 o9 orow ota oma obw osz s4 srow sta sma sbw ssz HROWV HT HM HBW HCUR HNO HNS HP4 H9 HROW
            go_wp2_with fail
            go_roundw
            case rel => exact ⟨j + 1, L1, true, GS, A1, N1, c1, G1, M1, d1, by omega, by go_num, rfl, HEND⟩
            case measure => simp [intOf]; omega
        · cases f
          · skip
            obtain rfl : F1 = false := by rw [HF.out]; simp [hk4]
            obtain rfl : Ya = true := by rw [HY.out]; simp [hk4]
            clear HF HY HR1
            -- the two stores
            have hoth : ∀ k, k ≠ g5 → (V1.setCell ⟨g5, at9, none⟩ (.bool true)).heap[k]? = V1.heap[k]? := fun k hk => heap_setCell_other _ _ _ _ hk
            have o4 := (hoth g4 h45).trans HP4.out
            have o9 := (hoth g9 n95).trans H9.out
            have orow := (HROWV.out.set at9 (.bool true)).congr (g := fun i => .bool (hdj L1 i)) (fun i hi => by rw [HROW.out i hi, decide_eq_true hk4]; split <;> simp)
            have ota := HT.out.apart HCUR.out HNO.out HNS.out hoth
            have oma := HM.out.far HCUR.out HNO.out (fun p hp => (HGb.out p hp).2.2) hoth
            have obw := HBW.out.setCell (p := ⟨g5, at9, none⟩) hW5 (.bool true)
            have osz : (V1.setCell ⟨g5, at9, none⟩ (.bool true)).heap.size = V1.heap.size := by simp [World.setCell]
            rw [← osz] at ota oma
            have s4 := set3_same (.bool true) (.slice A1 N1 c1) (.bool false) o4
            have srow := rowIs_other orow (set3_other (g := g4) (.bool true) (.slice A1 N1 c1) (.bool false) h45.symm)
            have sta := ota.put o4 (.bool true) (.slice A1 N1 c1) (.bool false)
            have sma := oma.put o4 (fun p hp => (HGb.out p hp).2.1) (.bool true) (.slice A1 N1 c1) (.bool false)
            have sbw := Below.set3 obw hW4 (.bool true) (.slice A1 N1 c1) (.bool false)
            have ssz := set3_size (V1.setCell ⟨g5, at9, none⟩ (.bool true)) g4 (.bool true) (.slice A1 N1 c1) (.bool false)
            have HEND := Lib.hid (show InvO W (set3 (V1.setCell ⟨g5, at9, none⟩ (.bool true)) g4 (.bool true) (.slice A1 N1 c1) (.bool false)) g4 g5 (j + 1) L1 false GS A1 N1 c1 G1 M1 d1 from
              ⟨sbw, s4, srow, HN1.out, ⟨e1, e2⟩, sta, HM1.out, ⟨e3, e4⟩, sma, fun p hp => ⟨by rw [ssz, osz]; exact (HGb.out p hp).1, (HGb.out p hp).2⟩, HNJ.out, HMJ.out, H60.out, hW4, hW5, h45⟩)
            obtain ⟨u0, u1, u2⟩ := cells3 o9
            obtain ⟨v0, v1, v2⟩ := cells3 o4
            obtain ⟨w0, w1', w2'⟩ := frozen3 o4
            clear hoth o4 o9 orow ota oma obw osz s4 srow sta sma sbw ssz HROWV HT HM HBW HCUR HNO HNS HP4 H9 HROW
            go_wp2_with fail
            go_roundw
            case rel => exact ⟨j + 1, L1, false, GS, A1, N1, c1, G1, M1, d1, by omega, by go_num, rfl, HEND⟩
            case measure => simp [intOf]; omega
          · skip
            obtain rfl : F1 = true := by rw [HF.out]; simp [hk4]
            obtain rfl : Ya = true := by rw [HY.out]; simp [hk4]
            clear HF HY HR1
            -- the two stores
            have hoth : ∀ k, k ≠ g5 → (V1.setCell ⟨g5, at9, none⟩ (.bool true)).heap[k]? = V1.heap[k]? := fun k hk => heap_setCell_other _ _ _ _ hk
            have o4 := (hoth g4 h45).trans HP4.out
            have o9 := (hoth g9 n95).trans H9.out
            have orow := (HROWV.out.set at9 (.bool true)).congr (g := fun i => .bool (hdj L1 i)) (fun i hi => by rw [HROW.out i hi, decide_eq_true hk4]; split <;> simp)
            have ota := HT.out.apart HCUR.out HNO.out HNS.out hoth
            have oma := HM.out.far HCUR.out HNO.out (fun p hp => (HGb.out p hp).2.2) hoth
            have obw := HBW.out.setCell (p := ⟨g5, at9, none⟩) hW5 (.bool true)
            have osz : (V1.setCell ⟨g5, at9, none⟩ (.bool true)).heap.size = V1.heap.size := by simp [World.setCell]
            rw [← osz] at ota oma
            have s4 := set3_same (.bool true) (.slice A1 N1 c1) (.bool true) o4
            have srow := rowIs_other orow (set3_other (g := g4) (.bool true) (.slice A1 N1 c1) (.bool true) h45.symm)
            have sta := ota.put o4 (.bool true) (.slice A1 N1 c1) (.bool true)
            have sma := oma.put o4 (fun p hp => (HGb.out p hp).2.1) (.bool true) (.slice A1 N1 c1) (.bool true)
            have sbw := Below.set3 obw hW4 (.bool true) (.slice A1 N1 c1) (.bool true)
            have ssz := set3_size (V1.setCell ⟨g5, at9, none⟩ (.bool true)) g4 (.bool true) (.slice A1 N1 c1) (.bool true)
            have HEND := Lib.hid (show InvO W (set3 (V1.setCell ⟨g5, at9, none⟩ (.bool true)) g4 (.bool true) (.slice A1 N1 c1) (.bool true)) g4 g5 (j + 1) L1 true GS A1 N1 c1 G1 M1 d1 from
              ⟨sbw, s4, srow, HN1.out, ⟨e1, e2⟩, sta, HM1.out, ⟨e3, e4⟩, sma, fun p hp => ⟨by rw [ssz, osz]; exact (HGb.out p hp).1, (HGb.out p hp).2⟩, HNJ.out, HMJ.out, H60.out, hW4, hW5, h45⟩)
            obtain ⟨u0, u1, u2⟩ := cells3 o9
            obtain ⟨v0, v1, v2⟩ := cells3 o4
            obtain ⟨w0, w1', w2'⟩ := frozen3 o4
            clear hoth o4 o9 orow ota oma obw osz s4 srow sta sma sbw ssz HROWV HT HM HBW HCUR HNO HNS HP4 H9 HROW
            go_wp2_with fail
            go_roundw
            case rel => exact ⟨j + 1, L1, true, GS, A1, N1, c1, G1, M1, d1, by omega, by go_num, rfl, HEND⟩
            case measure => simp [intOf]; omega
      · skip
        have ed1 : (q.kd.toNat : Int).tmod 4 = 1 := by rw [Int.tmod_eq_emod_of_nonneg (by omega)]; omega
        have ed2 : (q.kd.toNat : Int) % 4 = 1 := by omega
        have hk0 : ¬ q.kd.toNat % 4 = 0 := by omega
        obtain rfl : R = true := HR1.out hk4
        cases H
        · cases f
          · skip
            obtain rfl : F1 = true := by rw [HF.out]; simp [hk4]
            obtain rfl : Ya = false := by rw [HY.out]; simp [hk4]
            clear HF HY HR1
            -- the two stores
            have hoth : ∀ k, k ≠ g5 → (V1.setCell ⟨g5, at9, none⟩ (.bool false)).heap[k]? = V1.heap[k]? := fun k hk => heap_setCell_other _ _ _ _ hk
            have o4 := (hoth g4 h45).trans HP4.out
            have o9 := (hoth g9 n95).trans H9.out
            have orow := (HROWV.out.set at9 (.bool false)).congr (g := fun i => .bool (hdj L1 i)) (fun i hi => by rw [HROW.out i hi, decide_eq_false hk0]; split <;> simp)
            have ota := HT.out.apart HCUR.out HNO.out HNS.out hoth
            have oma := HM.out.far HCUR.out HNO.out (fun p hp => (HGb.out p hp).2.2) hoth
            have obw := HBW.out.setCell (p := ⟨g5, at9, none⟩) hW5 (.bool false)
            have osz : (V1.setCell ⟨g5, at9, none⟩ (.bool false)).heap.size = V1.heap.size := by simp [World.setCell]
            rw [← osz] at ota oma
            have s4 := set3_same (.bool true) (.slice A1 N1 c1) (.bool true) o4
            have srow := rowIs_other orow (set3_other (g := g4) (.bool true) (.slice A1 N1 c1) (.bool true) h45.symm)
            have sta := ota.put o4 (.bool true) (.slice A1 N1 c1) (.bool true)
            have sma := oma.put o4 (fun p hp => (HGb.out p hp).2.1) (.bool true) (.slice A1 N1 c1) (.bool true)
            have sbw := Below.set3 obw hW4 (.bool true) (.slice A1 N1 c1) (.bool true)
            have ssz := set3_size (V1.setCell ⟨g5, at9, none⟩ (.bool false)) g4 (.bool true) (.slice A1 N1 c1) (.bool true)
            have HEND := Lib.hid (show InvO W (set3 (V1.setCell ⟨g5, at9, none⟩ (.bool false)) g4 (.bool true) (.slice A1 N1 c1) (.bool true)) g4 g5 (j + 1) L1 true GS A1 N1 c1 G1 M1 d1 from
              ⟨sbw, s4, srow, HN1.out, ⟨e1, e2⟩, sta, HM1.out, ⟨e3, e4⟩, sma, fun p hp => ⟨by rw [ssz, osz]; exact (HGb.out p hp).1, (HGb.out p hp).2⟩, HNJ.out, HMJ.out, H60.out, hW4, hW5, h45⟩)
            obtain ⟨u0, u1, u2⟩ := cells3 o9
            obtain ⟨v0, v1, v2⟩ := cells3 o4
            obtain ⟨w0, w1', w2'⟩ := frozen3 o4
            clear hoth o4 o9 orow ota oma obw osz s4 srow sta sma sbw ssz HROWV HT HM HBW HCUR HNO HNS HP4 H9 HROW
            go_wp2_with fail
            go_roundw
            case rel => exact ⟨j + 1, L1, true, GS, A1, N1, c1, G1, M1, d1, by omega, by go_num, rfl, HEND⟩
            case measure => simp [intOf]; omega
          · skip
            obtain rfl : F1 = true := by rw [HF.out]; simp [hk4]
            obtain rfl : Ya = false := by rw [HY.out]; simp [hk4]
            clear HF HY HR1
            -- the two stores
            have hoth : ∀ k, k ≠ g5 → (V1.setCell ⟨g5, at9, none⟩ (.bool false)).heap[k]? = V1.heap[k]? := fun k hk => heap_setCell_other _ _ _ _ hk
            have o4 := (hoth g4 h45).trans HP4.out
            have o9 := (hoth g9 n95).trans H9.out
            have orow := (HROWV.out.set at9 (.bool false)).congr (g := fun i => .bool (hdj L1 i)) (fun i hi => by rw [HROW.out i hi, decide_eq_false hk0]; split <;> simp)
            have ota := HT.out.apart HCUR.out HNO.out HNS.out hoth
            have oma := HM.out.far HCUR.out HNO.out (fun p hp => (HGb.out p hp).2.2) hoth
            have obw := HBW.out.setCell (p := ⟨g5, at9, none⟩) hW5 (.bool false)
            have osz : (V1.setCell ⟨g5, at9, none⟩ (.bool false)).heap.size = V1.heap.size := by simp [World.setCell]
            rw [← osz] at ota oma
            have s4 := set3_same (.bool true) (.slice A1 N1 c1) (.bool true) o4
            have srow := rowIs_other orow (set3_other (g := g4) (.bool true) (.slice A1 N1 c1) (.bool true) h45.symm)
            have sta := ota.put o4 (.bool true) (.slice A1 N1 c1) (.bool true)
            have sma := oma.put o4 (fun p hp => (HGb.out p hp).2.1) (.bool true) (.slice A1 N1 c1) (.bool true)
            have sbw := Below.set3 obw hW4 (.bool true) (.slice A1 N1 c1) (.bool true)
            have ssz := set3_size (V1.setCell ⟨g5, at9, none⟩ (.bool false)) g4 (.bool true) (.slice A1 N1 c1) (.bool true)
            have HEND := Lib.hid (show InvO W (set3 (V1.setCell ⟨g5, at9, none⟩ (.bool false)) g4 (.bool true) (.slice A1 N1 c1) (.bool true)) g4 g5 (j + 1) L1 true GS A1 N1 c1 G1 M1 d1 from
              ⟨sbw, s4, srow, HN1.out, ⟨e1, e2⟩, sta, HM1.out, ⟨e3, e4⟩, sma, fun p hp => ⟨by rw [ssz, osz]; exact (HGb.out p hp).1, (HGb.out p hp).2⟩, HNJ.out, HMJ.out, H60.out, hW4, hW5, h45⟩)
            obtain ⟨u0, u1, u2⟩ := cells3 o9
            obtain ⟨v0, v1, v2⟩ := cells3 o4
            obtain ⟨w0, w1', w2'⟩ := frozen3 o4
            clear hoth o4 o9 orow ota oma obw osz s4 srow sta sma sbw ssz HROWV HT HM HBW HCUR HNO HNS HP4 H9 HROW
            go_wp2_with fail
            go_roundw
            case rel => exact ⟨j + 1, L1, true, GS, A1, N1, c1, G1, M1, d1, by omega, by go_num, rfl, HEND⟩
            case measure => simp [intOf]; omega
        · cases f
          · skip
            obtain rfl : F1 = false := by rw [HF.out]; simp [hk4]
            obtain rfl : Ya = true := by rw [HY.out]; simp [hk4]
            clear HF HY HR1
            -- the two stores
            have hoth : ∀ k, k ≠ g5 → (V1.setCell ⟨g5, at9, none⟩ (.bool true)).heap[k]? = V1.heap[k]? := fun k hk => heap_setCell_other _ _ _ _ hk
            have o4 := (hoth g4 h45).trans HP4.out
            have o9 := (hoth g9 n95).trans H9.out
            have orow := (HROWV.out.set at9 (.bool true)).congr (g := fun i => .bool (hdj L1 i)) (fun i hi => by rw [HROW.out i hi, decide_eq_false hk0]; split <;> simp)
            have ota := HT.out.apart HCUR.out HNO.out HNS.out hoth
            have oma := HM.out.far HCUR.out HNO.out (fun p hp => (HGb.out p hp).2.2) hoth
            have obw := HBW.out.setCell (p := ⟨g5, at9, none⟩) hW5 (.bool true)
            have osz : (V1.setCell ⟨g5, at9, none⟩ (.bool true)).heap.size = V1.heap.size := by simp [World.setCell]
            rw [← osz] at ota oma
            have s4 := set3_same (.bool true) (.slice A1 N1 c1) (.bool false) o4
            have srow := rowIs_other orow (set3_other (g := g4) (.bool true) (.slice A1 N1 c1) (.bool false) h45.symm)
            have sta := ota.put o4 (.bool true) (.slice A1 N1 c1) (.bool false)
            have sma := oma.put o4 (fun p hp => (HGb.out p hp).2.1) (.bool true) (.slice A1 N1 c1) (.bool false)
            have sbw := Below.set3 obw hW4 (.bool true) (.slice A1 N1 c1) (.bool false)
            have ssz := set3_size (V1.setCell ⟨g5, at9, none⟩ (.bool true)) g4 (.bool true) (.slice A1 N1 c1) (.bool false)
            have HEND := Lib.hid (show InvO W (set3 (V1.setCell ⟨g5, at9, none⟩ (.bool true)) g4 (.bool true) (.slice A1 N1 c1) (.bool false)) g4 g5 (j + 1) L1 false GS A1 N1 c1 G1 M1 d1 from
              ⟨sbw, s4, srow, HN1.out, ⟨e1, e2⟩, sta, HM1.out, ⟨e3, e4⟩, sma, fun p hp => ⟨by rw [ssz, osz]; exact (HGb.out p hp).1, (HGb.out p hp).2⟩, HNJ.out, HMJ.out, H60.out, hW4, hW5, h45⟩)
            obtain ⟨u0, u1, u2⟩ := cells3 o9
            obtain ⟨v0, v1, v2⟩ := cells3 o4
            obtain ⟨w0, w1', w2'⟩ := frozen3 o4
            clear hoth o4 o9 orow ota oma obw osz s4 srow sta sma sbw ssz HROWV HT HM HBW HCUR HNO HNS HP4 H9 HROW
            go_wp2_with fail
            go_roundw
            case rel => exact ⟨j + 1, L1, false, GS, A1, N1, c1, G1, M1, d1, by omega, by go_num, rfl, HEND⟩
            case measure => simp [intOf]; omega
          · skip
            obtain rfl : F1 = true := by rw [HF.out]; simp [hk4]
            obtain rfl : Ya = true := by rw [HY.out]; simp [hk4]
            clear HF HY HR1
            -- the two stores
            have hoth : ∀ k, k ≠ g5 → (V1.setCell ⟨g5, at9, none⟩ (.bool true)).heap[k]? = V1.heap[k]? := fun k hk => heap_setCell_other _ _ _ _ hk
            have o4 := (hoth g4 h45).trans HP4.out
            have o9 := (hoth g9 n95).trans H9.out
            have orow := (HROWV.out.set at9 (.bool true)).congr (g := fun i => .bool (hdj L1 i)) (fun i hi => by rw [HROW.out i hi, decide_eq_false hk0]; split <;> simp)
            have ota := HT.out.apart HCUR.out HNO.out HNS.out hoth
            have oma := HM.out.far HCUR.out HNO.out (fun p hp => (HGb.out p hp).2.2) hoth
            have obw := HBW.out.setCell (p := ⟨g5, at9, none⟩) hW5 (.bool true)
            have osz : (V1.setCell ⟨g5, at9, none⟩ (.bool true)).heap.size = V1.heap.size := by simp [World.setCell]
            rw [← osz] at ota oma
            have s4 := set3_same (.bool true) (.slice A1 N1 c1) (.bool true) o4
            have srow := rowIs_other orow (set3_other (g := g4) (.bool true) (.slice A1 N1 c1) (.bool true) h45.symm)
            have sta := ota.put o4 (.bool true) (.slice A1 N1 c1) (.bool true)
            have sma := oma.put o4 (fun p hp => (HGb.out p hp).2.1) (.bool true) (.slice A1 N1 c1) (.bool true)
            have sbw := Below.set3 obw hW4 (.bool true) (.slice A1 N1 c1) (.bool true)
            have ssz := set3_size (V1.setCell ⟨g5, at9, none⟩ (.bool true)) g4 (.bool true) (.slice A1 N1 c1) (.bool true)
            have HEND := Lib.hid (show InvO W (set3 (V1.setCell ⟨g5, at9, none⟩ (.bool true)) g4 (.bool true) (.slice A1 N1 c1) (.bool true)) g4 g5 (j + 1) L1 true GS A1 N1 c1 G1 M1 d1 from
              ⟨sbw, s4, srow, HN1.out, ⟨e1, e2⟩, sta, HM1.out, ⟨e3, e4⟩, sma, fun p hp => ⟨by rw [ssz, osz]; exact (HGb.out p hp).1, (HGb.out p hp).2⟩, HNJ.out, HMJ.out, H60.out, hW4, hW5, h45⟩)
            obtain ⟨u0, u1, u2⟩ := cells3 o9
            obtain ⟨v0, v1, v2⟩ := cells3 o4
            obtain ⟨w0, w1', w2'⟩ := frozen3 o4
            clear hoth o4 o9 orow ota oma obw osz s4 srow sta sma sbw ssz HROWV HT HM HBW HCUR HNO HNS HP4 H9 HROW
            go_wp2_with fail
            go_roundw
            case rel => exact ⟨j + 1, L1, true, GS, A1, N1, c1, G1, M1, d1, by omega, by go_num, rfl, HEND⟩
            case measure => simp [intOf]; omega
      · skip
        have ed1 : (q.kd.toNat : Int).tmod 4 = 2 := by rw [Int.tmod_eq_emod_of_nonneg (by omega)]; omega
        have ed2 : (q.kd.toNat : Int) % 4 = 2 := by omega
        have hk0 : ¬ q.kd.toNat % 4 = 0 := by omega
        cases H
        · cases R
          · cases f
            · skip
              obtain rfl : F1 = false := by rw [HF.out]; simp [hk4]
              obtain rfl : Ya = false := by rw [HY.out]; simp [hk4]
              clear HF HY HR1
              -- the two stores
              have hoth : ∀ k, k ≠ g5 → (V1.setCell ⟨g5, at9, none⟩ (.bool false)).heap[k]? = V1.heap[k]? := fun k hk => heap_setCell_other _ _ _ _ hk
              have o4 := (hoth g4 h45).trans HP4.out
              have o9 := (hoth g9 n95).trans H9.out
              have orow := (HROWV.out.set at9 (.bool false)).congr (g := fun i => .bool (hdj L1 i)) (fun i hi => by rw [HROW.out i hi, decide_eq_false hk0]; split <;> simp)
              have ota := HT.out.apart HCUR.out HNO.out HNS.out hoth
              have oma := HM.out.far HCUR.out HNO.out (fun p hp => (HGb.out p hp).2.2) hoth
              have obw := HBW.out.setCell (p := ⟨g5, at9, none⟩) hW5 (.bool false)
              have osz : (V1.setCell ⟨g5, at9, none⟩ (.bool false)).heap.size = V1.heap.size := by simp [World.setCell]
              rw [← osz] at ota oma
              have s4 := set3_same (.bool true) (.slice A1 N1 c1) (.bool false) o4
              have srow := rowIs_other orow (set3_other (g := g4) (.bool true) (.slice A1 N1 c1) (.bool false) h45.symm)
              have sta := ota.put o4 (.bool true) (.slice A1 N1 c1) (.bool false)
              have sma := oma.put o4 (fun p hp => (HGb.out p hp).2.1) (.bool true) (.slice A1 N1 c1) (.bool false)
              have sbw := Below.set3 obw hW4 (.bool true) (.slice A1 N1 c1) (.bool false)
              have ssz := set3_size (V1.setCell ⟨g5, at9, none⟩ (.bool false)) g4 (.bool true) (.slice A1 N1 c1) (.bool false)
              have HEND := Lib.hid (show InvO W (set3 (V1.setCell ⟨g5, at9, none⟩ (.bool false)) g4 (.bool true) (.slice A1 N1 c1) (.bool false)) g4 g5 (j + 1) L1 false GS A1 N1 c1 G1 M1 d1 from
                ⟨sbw, s4, srow, HN1.out, ⟨e1, e2⟩, sta, HM1.out, ⟨e3, e4⟩, sma, fun p hp => ⟨by rw [ssz, osz]; exact (HGb.out p hp).1, (HGb.out p hp).2⟩, HNJ.out, HMJ.out, H60.out, hW4, hW5, h45⟩)
              obtain ⟨u0, u1, u2⟩ := cells3 o9
              obtain ⟨v0, v1, v2⟩ := cells3 o4
              obtain ⟨w0, w1', w2'⟩ := frozen3 o4
              clear hoth o4 o9 orow ota oma obw osz s4 srow sta sma sbw ssz HROWV HT HM HBW HCUR HNO HNS HP4 H9 HROW
              go_wp2_with fail
              go_roundw
              case rel => exact ⟨j + 1, L1, false, GS, A1, N1, c1, G1, M1, d1, by omega, by go_num, rfl, HEND⟩
              case measure => simp [intOf]; omega
            · skip
              obtain rfl : F1 = true := by rw [HF.out]; simp [hk4]
              obtain rfl : Ya = false := by rw [HY.out]; simp [hk4]
              clear HF HY HR1
              -- the two stores
              have hoth : ∀ k, k ≠ g5 → (V1.setCell ⟨g5, at9, none⟩ (.bool false)).heap[k]? = V1.heap[k]? := fun k hk => heap_setCell_other _ _ _ _ hk
              have o4 := (hoth g4 h45).trans HP4.out
              have o9 := (hoth g9 n95).trans H9.out
              have orow := (HROWV.out.set at9 (.bool false)).congr (g := fun i => .bool (hdj L1 i)) (fun i hi => by rw [HROW.out i hi, decide_eq_false hk0]; split <;> simp)
              have ota := HT.out.apart HCUR.out HNO.out HNS.out hoth
              have oma := HM.out.far HCUR.out HNO.out (fun p hp => (HGb.out p hp).2.2) hoth
              have obw := HBW.out.setCell (p := ⟨g5, at9, none⟩) hW5 (.bool false)
              have osz : (V1.setCell ⟨g5, at9, none⟩ (.bool false)).heap.size = V1.heap.size := by simp [World.setCell]
              rw [← osz] at ota oma
              have s4 := set3_same (.bool true) (.slice A1 N1 c1) (.bool true) o4
              have srow := rowIs_other orow (set3_other (g := g4) (.bool true) (.slice A1 N1 c1) (.bool true) h45.symm)
              have sta := ota.put o4 (.bool true) (.slice A1 N1 c1) (.bool true)
              have sma := oma.put o4 (fun p hp => (HGb.out p hp).2.1) (.bool true) (.slice A1 N1 c1) (.bool true)
              have sbw := Below.set3 obw hW4 (.bool true) (.slice A1 N1 c1) (.bool true)
              have ssz := set3_size (V1.setCell ⟨g5, at9, none⟩ (.bool false)) g4 (.bool true) (.slice A1 N1 c1) (.bool true)
              have HEND := Lib.hid (show InvO W (set3 (V1.setCell ⟨g5, at9, none⟩ (.bool false)) g4 (.bool true) (.slice A1 N1 c1) (.bool true)) g4 g5 (j + 1) L1 true GS A1 N1 c1 G1 M1 d1 from
                ⟨sbw, s4, srow, HN1.out, ⟨e1, e2⟩, sta, HM1.out, ⟨e3, e4⟩, sma, fun p hp => ⟨by rw [ssz, osz]; exact (HGb.out p hp).1, (HGb.out p hp).2⟩, HNJ.out, HMJ.out, H60.out, hW4, hW5, h45⟩)
              obtain ⟨u0, u1, u2⟩ := cells3 o9
              obtain ⟨v0, v1, v2⟩ := cells3 o4
              obtain ⟨w0, w1', w2'⟩ := frozen3 o4
              clear hoth o4 o9 orow ota oma obw osz s4 srow sta sma sbw ssz HROWV HT HM HBW HCUR HNO HNS HP4 H9 HROW
              go_wp2_with fail
              go_roundw
              case rel => exact ⟨j + 1, L1, true, GS, A1, N1, c1, G1, M1, d1, by omega, by go_num, rfl, HEND⟩
              case measure => simp [intOf]; omega
          · cases f
            · skip
              obtain rfl : F1 = true := by rw [HF.out]; simp [hk4]
              obtain rfl : Ya = false := by rw [HY.out]; simp [hk4]
              clear HF HY HR1
              -- the two stores
              have hoth : ∀ k, k ≠ g5 → (V1.setCell ⟨g5, at9, none⟩ (.bool false)).heap[k]? = V1.heap[k]? := fun k hk => heap_setCell_other _ _ _ _ hk
              have o4 := (hoth g4 h45).trans HP4.out
              have o9 := (hoth g9 n95).trans H9.out
              have orow := (HROWV.out.set at9 (.bool false)).congr (g := fun i => .bool (hdj L1 i)) (fun i hi => by rw [HROW.out i hi, decide_eq_false hk0]; split <;> simp)
              have ota := HT.out.apart HCUR.out HNO.out HNS.out hoth
              have oma := HM.out.far HCUR.out HNO.out (fun p hp => (HGb.out p hp).2.2) hoth
              have obw := HBW.out.setCell (p := ⟨g5, at9, none⟩) hW5 (.bool false)
              have osz : (V1.setCell ⟨g5, at9, none⟩ (.bool false)).heap.size = V1.heap.size := by simp [World.setCell]
              rw [← osz] at ota oma
              have s4 := set3_same (.bool true) (.slice A1 N1 c1) (.bool true) o4
              have srow := rowIs_other orow (set3_other (g := g4) (.bool true) (.slice A1 N1 c1) (.bool true) h45.symm)
              have sta := ota.put o4 (.bool true) (.slice A1 N1 c1) (.bool true)
              have sma := oma.put o4 (fun p hp => (HGb.out p hp).2.1) (.bool true) (.slice A1 N1 c1) (.bool true)
              have sbw := Below.set3 obw hW4 (.bool true) (.slice A1 N1 c1) (.bool true)
              have ssz := set3_size (V1.setCell ⟨g5, at9, none⟩ (.bool false)) g4 (.bool true) (.slice A1 N1 c1) (.bool true)
              have HEND := Lib.hid (show InvO W (set3 (V1.setCell ⟨g5, at9, none⟩ (.bool false)) g4 (.bool true) (.slice A1 N1 c1) (.bool true)) g4 g5 (j + 1) L1 true GS A1 N1 c1 G1 M1 d1 from
                ⟨sbw, s4, srow, HN1.out, ⟨e1, e2⟩, sta, HM1.out, ⟨e3, e4⟩, sma, fun p hp => ⟨by rw [ssz, osz]; exact (HGb.out p hp).1, (HGb.out p hp).2⟩, HNJ.out, HMJ.out, H60.out, hW4, hW5, h45⟩)
              obtain ⟨u0, u1, u2⟩ := cells3 o9
              obtain ⟨v0, v1, v2⟩ := cells3 o4
              obtain ⟨w0, w1', w2'⟩ := frozen3 o4
              clear hoth o4 o9 orow ota oma obw osz s4 srow sta sma sbw ssz HROWV HT HM HBW HCUR HNO HNS HP4 H9 HROW
              go_wp2_with fail
              go_roundw
              case rel => exact ⟨j + 1, L1, true, GS, A1, N1, c1, G1, M1, d1, by omega, by go_num, rfl, HEND⟩
              case measure => simp [intOf]; omega
            · skip
              obtain rfl : F1 = true := by rw [HF.out]; simp [hk4]
              obtain rfl : Ya = false := by rw [HY.out]; simp [hk4]
              clear HF HY HR1
              -- the two stores
              have hoth : ∀ k, k ≠ g5 → (V1.setCell ⟨g5, at9, none⟩ (.bool false)).heap[k]? = V1.heap[k]? := fun k hk => heap_setCell_other _ _ _ _ hk
              have o4 := (hoth g4 h45).trans HP4.out
              have o9 := (hoth g9 n95).trans H9.out
              have orow := (HROWV.out.set at9 (.bool false)).congr (g := fun i => .bool (hdj L1 i)) (fun i hi => by rw [HROW.out i hi, decide_eq_false hk0]; split <;> simp)
              have ota := HT.out.apart HCUR.out HNO.out HNS.out hoth
              have oma := HM.out.far HCUR.out HNO.out (fun p hp => (HGb.out p hp).2.2) hoth
              have obw := HBW.out.setCell (p := ⟨g5, at9, none⟩) hW5 (.bool false)
              have osz : (V1.setCell ⟨g5, at9, none⟩ (.bool false)).heap.size = V1.heap.size := by simp [World.setCell]
              rw [← osz] at ota oma
              have s4 := set3_same (.bool true) (.slice A1 N1 c1) (.bool true) o4
              have srow := rowIs_other orow (set3_other (g := g4) (.bool true) (.slice A1 N1 c1) (.bool true) h45.symm)
              have sta := ota.put o4 (.bool true) (.slice A1 N1 c1) (.bool true)
              have sma := oma.put o4 (fun p hp => (HGb.out p hp).2.1) (.bool true) (.slice A1 N1 c1) (.bool true)
              have sbw := Below.set3 obw hW4 (.bool true) (.slice A1 N1 c1) (.bool true)
              have ssz := set3_size (V1.setCell ⟨g5, at9, none⟩ (.bool false)) g4 (.bool true) (.slice A1 N1 c1) (.bool true)
              have HEND := Lib.hid (show InvO W (set3 (V1.setCell ⟨g5, at9, none⟩ (.bool false)) g4 (.bool true) (.slice A1 N1 c1) (.bool true)) g4 g5 (j + 1) L1 true GS A1 N1 c1 G1 M1 d1 from
                ⟨sbw, s4, srow, HN1.out, ⟨e1, e2⟩, sta, HM1.out, ⟨e3, e4⟩, sma, fun p hp => ⟨by rw [ssz, osz]; exact (HGb.out p hp).1, (HGb.out p hp).2⟩, HNJ.out, HMJ.out, H60.out, hW4, hW5, h45⟩)
              obtain ⟨u0, u1, u2⟩ := cells3 o9
              obtain ⟨v0, v1, v2⟩ := cells3 o4
              obtain ⟨w0, w1', w2'⟩ := frozen3 o4
              clear hoth o4 o9 orow ota oma obw osz s4 srow sta sma sbw ssz HROWV HT HM HBW HCUR HNO HNS HP4 H9 HROW
              go_wp2_with fail
              go_roundw
              case rel => exact ⟨j + 1, L1, true, GS, A1, N1, c1, G1, M1, d1, by omega, by go_num, rfl, HEND⟩
              case measure => simp [intOf]; omega
        · cases R
          · cases f
            · skip
              obtain rfl : F1 = false := by rw [HF.out]; simp [hk4]
              obtain rfl : Ya = false := by rw [HY.out]; simp [hk4]
              clear HF HY HR1
              -- the two stores
              have hoth : ∀ k, k ≠ g5 → (V1.setCell ⟨g5, at9, none⟩ (.bool true)).heap[k]? = V1.heap[k]? := fun k hk => heap_setCell_other _ _ _ _ hk
              have o4 := (hoth g4 h45).trans HP4.out
              have o9 := (hoth g9 n95).trans H9.out
              have orow := (HROWV.out.set at9 (.bool true)).congr (g := fun i => .bool (hdj L1 i)) (fun i hi => by rw [HROW.out i hi, decide_eq_false hk0]; split <;> simp)
              have ota := HT.out.apart HCUR.out HNO.out HNS.out hoth
              have oma := HM.out.far HCUR.out HNO.out (fun p hp => (HGb.out p hp).2.2) hoth
              have obw := HBW.out.setCell (p := ⟨g5, at9, none⟩) hW5 (.bool true)
              have osz : (V1.setCell ⟨g5, at9, none⟩ (.bool true)).heap.size = V1.heap.size := by simp [World.setCell]
              rw [← osz] at ota oma
              have s4 := set3_same (.bool true) (.slice A1 N1 c1) (.bool false) o4
              have srow := rowIs_other orow (set3_other (g := g4) (.bool true) (.slice A1 N1 c1) (.bool false) h45.symm)
              have sta := ota.put o4 (.bool true) (.slice A1 N1 c1) (.bool false)
              have sma := oma.put o4 (fun p hp => (HGb.out p hp).2.1) (.bool true) (.slice A1 N1 c1) (.bool false)
              have sbw := Below.set3 obw hW4 (.bool true) (.slice A1 N1 c1) (.bool false)
              have ssz := set3_size (V1.setCell ⟨g5, at9, none⟩ (.bool true)) g4 (.bool true) (.slice A1 N1 c1) (.bool false)
              have HEND := Lib.hid (show InvO W (set3 (V1.setCell ⟨g5, at9, none⟩ (.bool true)) g4 (.bool true) (.slice A1 N1 c1) (.bool false)) g4 g5 (j + 1) L1 false GS A1 N1 c1 G1 M1 d1 from
                ⟨sbw, s4, srow, HN1.out, ⟨e1, e2⟩, sta, HM1.out, ⟨e3, e4⟩, sma, fun p hp => ⟨by rw [ssz, osz]; exact (HGb.out p hp).1, (HGb.out p hp).2⟩, HNJ.out, HMJ.out, H60.out, hW4, hW5, h45⟩)
              obtain ⟨u0, u1, u2⟩ := cells3 o9
              obtain ⟨v0, v1, v2⟩ := cells3 o4
              obtain ⟨w0, w1', w2'⟩ := frozen3 o4
              clear hoth o4 o9 orow ota oma obw osz s4 srow sta sma sbw ssz HROWV HT HM HBW HCUR HNO HNS HP4 H9 HROW
              go_wp2_with fail
              go_roundw
              case rel => exact ⟨j + 1, L1, false, GS, A1, N1, c1, G1, M1, d1, by omega, by go_num, rfl, HEND⟩
              case measure => simp [intOf]; omega
            · skip
              obtain rfl : F1 = true := by rw [HF.out]; simp [hk4]
              obtain rfl : Ya = false := by rw [HY.out]; simp [hk4]
              clear HF HY HR1
              -- the two stores
              have hoth : ∀ k, k ≠ g5 → (V1.setCell ⟨g5, at9, none⟩ (.bool true)).heap[k]? = V1.heap[k]? := fun k hk => heap_setCell_other _ _ _ _ hk
              have o4 := (hoth g4 h45).trans HP4.out
              have o9 := (hoth g9 n95).trans H9.out
              have orow := (HROWV.out.set at9 (.bool true)).congr (g := fun i => .bool (hdj L1 i)) (fun i hi => by rw [HROW.out i hi, decide_eq_false hk0]; split <;> simp)
              have ota := HT.out.apart HCUR.out HNO.out HNS.out hoth
              have oma := HM.out.far HCUR.out HNO.out (fun p hp => (HGb.out p hp).2.2) hoth
              have obw := HBW.out.setCell (p := ⟨g5, at9, none⟩) hW5 (.bool true)
              have osz : (V1.setCell ⟨g5, at9, none⟩ (.bool true)).heap.size = V1.heap.size := by simp [World.setCell]
              rw [← osz] at ota oma
              have s4 := set3_same (.bool true) (.slice A1 N1 c1) (.bool true) o4
              have srow := rowIs_other orow (set3_other (g := g4) (.bool true) (.slice A1 N1 c1) (.bool true) h45.symm)
              have sta := ota.put o4 (.bool true) (.slice A1 N1 c1) (.bool true)
              have sma := oma.put o4 (fun p hp => (HGb.out p hp).2.1) (.bool true) (.slice A1 N1 c1) (.bool true)
              have sbw := Below.set3 obw hW4 (.bool true) (.slice A1 N1 c1) (.bool true)
              have ssz := set3_size (V1.setCell ⟨g5, at9, none⟩ (.bool true)) g4 (.bool true) (.slice A1 N1 c1) (.bool true)
              have HEND := Lib.hid (show InvO W (set3 (V1.setCell ⟨g5, at9, none⟩ (.bool true)) g4 (.bool true) (.slice A1 N1 c1) (.bool true)) g4 g5 (j + 1) L1 true GS A1 N1 c1 G1 M1 d1 from
                ⟨sbw, s4, srow, HN1.out, ⟨e1, e2⟩, sta, HM1.out, ⟨e3, e4⟩, sma, fun p hp => ⟨by rw [ssz, osz]; exact (HGb.out p hp).1, (HGb.out p hp).2⟩, HNJ.out, HMJ.out, H60.out, hW4, hW5, h45⟩)
              obtain ⟨u0, u1, u2⟩ := cells3 o9
              obtain ⟨v0, v1, v2⟩ := cells3 o4
              obtain ⟨w0, w1', w2'⟩ := frozen3 o4
              clear hoth o4 o9 orow ota oma obw osz s4 srow sta sma sbw ssz HROWV HT HM HBW HCUR HNO HNS HP4 H9 HROW
              go_wp2_with fail
              go_roundw
              case rel => exact ⟨j + 1, L1, true, GS, A1, N1, c1, G1, M1, d1, by omega, by go_num, rfl, HEND⟩
              case measure => simp [intOf]; omega
          · cases f
            · skip
              obtain rfl : F1 = false := by rw [HF.out]; simp [hk4]
              obtain rfl : Ya = true := by rw [HY.out]; simp [hk4]
              clear HF HY HR1
              -- the two stores
              have hoth : ∀ k, k ≠ g5 → (V1.setCell ⟨g5, at9, none⟩ (.bool true)).heap[k]? = V1.heap[k]? := fun k hk => heap_setCell_other _ _ _ _ hk
              have o4 := (hoth g4 h45).trans HP4.out
              have o9 := (hoth g9 n95).trans H9.out
              have orow := (HROWV.out.set at9 (.bool true)).congr (g := fun i => .bool (hdj L1 i)) (fun i hi => by rw [HROW.out i hi, decide_eq_false hk0]; split <;> simp)
              have ota := HT.out.apart HCUR.out HNO.out HNS.out hoth
              have oma := HM.out.far HCUR.out HNO.out (fun p hp => (HGb.out p hp).2.2) hoth
              have obw := HBW.out.setCell (p := ⟨g5, at9, none⟩) hW5 (.bool true)
              have osz : (V1.setCell ⟨g5, at9, none⟩ (.bool true)).heap.size = V1.heap.size := by simp [World.setCell]
              rw [← osz] at ota oma
              have s4 := set3_same (.bool true) (.slice A1 N1 c1) (.bool false) o4
              have srow := rowIs_other orow (set3_other (g := g4) (.bool true) (.slice A1 N1 c1) (.bool false) h45.symm)
              have sta := ota.put o4 (.bool true) (.slice A1 N1 c1) (.bool false)
              have sma := oma.put o4 (fun p hp => (HGb.out p hp).2.1) (.bool true) (.slice A1 N1 c1) (.bool false)
              have sbw := Below.set3 obw hW4 (.bool true) (.slice A1 N1 c1) (.bool false)
              have ssz := set3_size (V1.setCell ⟨g5, at9, none⟩ (.bool true)) g4 (.bool true) (.slice A1 N1 c1) (.bool false)
              have HEND := Lib.hid (show InvO W (set3 (V1.setCell ⟨g5, at9, none⟩ (.bool true)) g4 (.bool true) (.slice A1 N1 c1) (.bool false)) g4 g5 (j + 1) L1 false GS A1 N1 c1 G1 M1 d1 from
                ⟨sbw, s4, srow, HN1.out, ⟨e1, e2⟩, sta, HM1.out, ⟨e3, e4⟩, sma, fun p hp => ⟨by rw [ssz, osz]; exact (HGb.out p hp).1, (HGb.out p hp).2⟩, HNJ.out, HMJ.out, H60.out, hW4, hW5, h45⟩)
              obtain ⟨u0, u1, u2⟩ := cells3 o9
              obtain ⟨v0, v1, v2⟩ := cells3 o4
              obtain ⟨w0, w1', w2'⟩ := frozen3 o4
              clear hoth o4 o9 orow ota oma obw osz s4 srow sta sma sbw ssz HROWV HT HM HBW HCUR HNO HNS HP4 H9 HROW
              go_wp2_with fail
              go_roundw
              case rel => exact ⟨j + 1, L1, false, GS, A1, N1, c1, G1, M1, d1, by omega, by go_num, rfl, HEND⟩
              case measure => simp [intOf]; omega
            · skip
              obtain rfl : F1 = true := by rw [HF.out]; simp [hk4]
              obtain rfl : Ya = true := by rw [HY.out]; simp [hk4]
              clear HF HY HR1
              -- the two stores
              have hoth : ∀ k, k ≠ g5 → (V1.setCell ⟨g5, at9, none⟩ (.bool true)).heap[k]? = V1.heap[k]? := fun k hk => heap_setCell_other _ _ _ _ hk
              have o4 := (hoth g4 h45).trans HP4.out
              have o9 := (hoth g9 n95).trans H9.out
              have orow := (HROWV.out.set at9 (.bool true)).congr (g := fun i => .bool (hdj L1 i)) (fun i hi => by rw [HROW.out i hi, decide_eq_false hk0]; split <;> simp)
              have ota := HT.out.apart HCUR.out HNO.out HNS.out hoth
              have oma := HM.out.far HCUR.out HNO.out (fun p hp => (HGb.out p hp).2.2) hoth
              have obw := HBW.out.setCell (p := ⟨g5, at9, none⟩) hW5 (.bool true)
              have osz : (V1.setCell ⟨g5, at9, none⟩ (.bool true)).heap.size = V1.heap.size := by simp [World.setCell]
              rw [← osz] at ota oma
              have s4 := set3_same (.bool true) (.slice A1 N1 c1) (.bool true) o4
              have srow := rowIs_other orow (set3_other (g := g4) (.bool true) (.slice A1 N1 c1) (.bool true) h45.symm)
              have sta := ota.put o4 (.bool true) (.slice A1 N1 c1) (.bool true)
              have sma := oma.put o4 (fun p hp => (HGb.out p hp).2.1) (.bool true) (.slice A1 N1 c1) (.bool true)
              have sbw := Below.set3 obw hW4 (.bool true) (.slice A1 N1 c1) (.bool true)
              have ssz := set3_size (V1.setCell ⟨g5, at9, none⟩ (.bool true)) g4 (.bool true) (.slice A1 N1 c1) (.bool true)
              have HEND := Lib.hid (show InvO W (set3 (V1.setCell ⟨g5, at9, none⟩ (.bool true)) g4 (.bool true) (.slice A1 N1 c1) (.bool true)) g4 g5 (j + 1) L1 true GS A1 N1 c1 G1 M1 d1 from
                ⟨sbw, s4, srow, HN1.out, ⟨e1, e2⟩, sta, HM1.out, ⟨e3, e4⟩, sma, fun p hp => ⟨by rw [ssz, osz]; exact (HGb.out p hp).1, (HGb.out p hp).2⟩, HNJ.out, HMJ.out, H60.out, hW4, hW5, h45⟩)
              obtain ⟨u0, u1, u2⟩ := cells3 o9
              obtain ⟨v0, v1, v2⟩ := cells3 o4
              obtain ⟨w0, w1', w2'⟩ := frozen3 o4
              clear hoth o4 o9 orow ota oma obw osz s4 srow sta sma sbw ssz HROWV HT HM HBW HCUR HNO HNS HP4 H9 HROW
              go_wp2_with fail
              go_roundw
              case rel => exact ⟨j + 1, L1, true, GS, A1, N1, c1, G1, M1, d1, by omega, by go_num, rfl, HEND⟩
              case measure => simp [intOf]; omega
      · skip
        have ed1 : (q.kd.toNat : Int).tmod 4 = 3 := by rw [Int.tmod_eq_emod_of_nonneg (by omega)]; omega
        have ed2 : (q.kd.toNat : Int) % 4 = 3 := by omega
        have hk0 : ¬ q.kd.toNat % 4 = 0 := by omega
        cases H
        · cases R
          · cases f
            · skip
              obtain rfl : F1 = false := by rw [HF.out]; simp [hk4]
              obtain rfl : Ya = false := by rw [HY.out]; simp [hk4]
              clear HF HY HR1
              -- the two stores
              have hoth : ∀ k, k ≠ g5 → (V1.setCell ⟨g5, at9, none⟩ (.bool false)).heap[k]? = V1.heap[k]? := fun k hk => heap_setCell_other _ _ _ _ hk
              have o4 := (hoth g4 h45).trans HP4.out
              have o9 := (hoth g9 n95).trans H9.out
              have orow := (HROWV.out.set at9 (.bool false)).congr (g := fun i => .bool (hdj L1 i)) (fun i hi => by rw [HROW.out i hi, decide_eq_false hk0]; split <;> simp)
              have ota := HT.out.apart HCUR.out HNO.out HNS.out hoth
              have oma := HM.out.far HCUR.out HNO.out (fun p hp => (HGb.out p hp).2.2) hoth
              have obw := HBW.out.setCell (p := ⟨g5, at9, none⟩) hW5 (.bool false)
              have osz : (V1.setCell ⟨g5, at9, none⟩ (.bool false)).heap.size = V1.heap.size := by simp [World.setCell]
              rw [← osz] at ota oma
              have s4 := set3_same (.bool true) (.slice A1 N1 c1) (.bool false) o4
              have srow := rowIs_other orow (set3_other (g := g4) (.bool true) (.slice A1 N1 c1) (.bool false) h45.symm)
              have sta := ota.put o4 (.bool true) (.slice A1 N1 c1) (.bool false)
              have sma := oma.put o4 (fun p hp => (HGb.out p hp).2.1) (.bool true) (.slice A1 N1 c1) (.bool false)
              have sbw := Below.set3 obw hW4 (.bool true) (.slice A1 N1 c1) (.bool false)
              have ssz := set3_size (V1.setCell ⟨g5, at9, none⟩ (.bool false)) g4 (.bool true) (.slice A1 N1 c1) (.bool false)
              have HEND := Lib.hid (show InvO W (set3 (V1.setCell ⟨g5, at9, none⟩ (.bool false)) g4 (.bool true) (.slice A1 N1 c1) (.bool false)) g4 g5 (j + 1) L1 false GS A1 N1 c1 G1 M1 d1 from
                ⟨sbw, s4, srow, HN1.out, ⟨e1, e2⟩, sta, HM1.out, ⟨e3, e4⟩, sma, fun p hp => ⟨by rw [ssz, osz]; exact (HGb.out p hp).1, (HGb.out p hp).2⟩, HNJ.out, HMJ.out, H60.out, hW4, hW5, h45⟩)
              obtain ⟨u0, u1, u2⟩ := cells3 o9
              obtain ⟨v0, v1, v2⟩ := cells3 o4
              obtain ⟨w0, w1', w2'⟩ := frozen3 o4
              clear hoth o4 o9 orow ota oma obw osz s4 srow sta sma sbw ssz HROWV HT HM HBW HCUR HNO HNS HP4 H9 HROW
              go_wp2_with fail
              go_roundw
              case rel => exact ⟨j + 1, L1, false, GS, A1, N1, c1, G1, M1, d1, by omega, by go_num, rfl, HEND⟩
              case measure => simp [intOf]; omega
            · skip
              obtain rfl : F1 = true := by rw [HF.out]; simp [hk4]
              obtain rfl : Ya = false := by rw [HY.out]; simp [hk4]
              clear HF HY HR1
              -- the two stores
              have hoth : ∀ k, k ≠ g5 → (V1.setCell ⟨g5, at9, none⟩ (.bool false)).heap[k]? = V1.heap[k]? := fun k hk => heap_setCell_other _ _ _ _ hk
              have o4 := (hoth g4 h45).trans HP4.out
              have o9 := (hoth g9 n95).trans H9.out
              have orow := (HROWV.out.set at9 (.bool false)).congr (g := fun i => .bool (hdj L1 i)) (fun i hi => by rw [HROW.out i hi, decide_eq_false hk0]; split <;> simp)
              have ota := HT.out.apart HCUR.out HNO.out HNS.out hoth
              have oma := HM.out.far HCUR.out HNO.out (fun p hp => (HGb.out p hp).2.2) hoth
              have obw := HBW.out.setCell (p := ⟨g5, at9, none⟩) hW5 (.bool false)
              have osz : (V1.setCell ⟨g5, at9, none⟩ (.bool false)).heap.size = V1.heap.size := by simp [World.setCell]
              rw [← osz] at ota oma
              have s4 := set3_same (.bool true) (.slice A1 N1 c1) (.bool true) o4
              have srow := rowIs_other orow (set3_other (g := g4) (.bool true) (.slice A1 N1 c1) (.bool true) h45.symm)
              have sta := ota.put o4 (.bool true) (.slice A1 N1 c1) (.bool true)
              have sma := oma.put o4 (fun p hp => (HGb.out p hp).2.1) (.bool true) (.slice A1 N1 c1) (.bool true)
              have sbw := Below.set3 obw hW4 (.bool true) (.slice A1 N1 c1) (.bool true)
              have ssz := set3_size (V1.setCell ⟨g5, at9, none⟩ (.bool false)) g4 (.bool true) (.slice A1 N1 c1) (.bool true)
              have HEND := Lib.hid (show InvO W (set3 (V1.setCell ⟨g5, at9, none⟩ (.bool false)) g4 (.bool true) (.slice A1 N1 c1) (.bool true)) g4 g5 (j + 1) L1 true GS A1 N1 c1 G1 M1 d1 from
                ⟨sbw, s4, srow, HN1.out, ⟨e1, e2⟩, sta, HM1.out, ⟨e3, e4⟩, sma, fun p hp => ⟨by rw [ssz, osz]; exact (HGb.out p hp).1, (HGb.out p hp).2⟩, HNJ.out, HMJ.out, H60.out, hW4, hW5, h45⟩)
              obtain ⟨u0, u1, u2⟩ := cells3 o9
              obtain ⟨v0, v1, v2⟩ := cells3 o4
              obtain ⟨w0, w1', w2'⟩ := frozen3 o4
              clear hoth o4 o9 orow ota oma obw osz s4 srow sta sma sbw ssz HROWV HT HM HBW HCUR HNO HNS HP4 H9 HROW
              go_wp2_with fail
              go_roundw
              case rel => exact ⟨j + 1, L1, true, GS, A1, N1, c1, G1, M1, d1, by omega, by go_num, rfl, HEND⟩
              case measure => simp [intOf]; omega
          · cases f
            · skip
              obtain rfl : F1 = true := by rw [HF.out]; simp [hk4]
              obtain rfl : Ya = false := by rw [HY.out]; simp [hk4]
              clear HF HY HR1
              -- the two stores
              have hoth : ∀ k, k ≠ g5 → (V1.setCell ⟨g5, at9, none⟩ (.bool false)).heap[k]? = V1.heap[k]? := fun k hk => heap_setCell_other _ _ _ _ hk
              have o4 := (hoth g4 h45).trans HP4.out
              have o9 := (hoth g9 n95).trans H9.out
              have orow := (HROWV.out.set at9 (.bool false)).congr (g := fun i => .bool (hdj L1 i)) (fun i hi => by rw [HROW.out i hi, decide_eq_false hk0]; split <;> simp)
              have ota := HT.out.apart HCUR.out HNO.out HNS.out hoth
              have oma := HM.out.far HCUR.out HNO.out (fun p hp => (HGb.out p hp).2.2) hoth
              have obw := HBW.out.setCell (p := ⟨g5, at9, none⟩) hW5 (.bool false)
              have osz : (V1.setCell ⟨g5, at9, none⟩ (.bool false)).heap.size = V1.heap.size := by simp [World.setCell]
              rw [← osz] at ota oma
              have s4 := set3_same (.bool true) (.slice A1 N1 c1) (.bool true) o4
              have srow := rowIs_other orow (set3_other (g := g4) (.bool true) (.slice A1 N1 c1) (.bool true) h45.symm)
              have sta := ota.put o4 (.bool true) (.slice A1 N1 c1) (.bool true)
              have sma := oma.put o4 (fun p hp => (HGb.out p hp).2.1) (.bool true) (.slice A1 N1 c1) (.bool true)
              have sbw := Below.set3 obw hW4 (.bool true) (.slice A1 N1 c1) (.bool true)
              have ssz := set3_size (V1.setCell ⟨g5, at9, none⟩ (.bool false)) g4 (.bool true) (.slice A1 N1 c1) (.bool true)
              have HEND := Lib.hid (show InvO W (set3 (V1.setCell ⟨g5, at9, none⟩ (.bool false)) g4 (.bool true) (.slice A1 N1 c1) (.bool true)) g4 g5 (j + 1) L1 true GS A1 N1 c1 G1 M1 d1 from
                ⟨sbw, s4, srow, HN1.out, ⟨e1, e2⟩, sta, HM1.out, ⟨e3, e4⟩, sma, fun p hp => ⟨by rw [ssz, osz]; exact (HGb.out p hp).1, (HGb.out p hp).2⟩, HNJ.out, HMJ.out, H60.out, hW4, hW5, h45⟩)
              obtain ⟨u0, u1, u2⟩ := cells3 o9
              obtain ⟨v0, v1, v2⟩ := cells3 o4
              obtain ⟨w0, w1', w2'⟩ := frozen3 o4
              clear hoth o4 o9 orow ota oma obw osz s4 srow sta sma sbw ssz HROWV HT HM HBW HCUR HNO HNS HP4 H9 HROW
              go_wp2_with fail
              go_roundw
              case rel => exact ⟨j + 1, L1, true, GS, A1, N1, c1, G1, M1, d1, by omega, by go_num, rfl, HEND⟩
              case measure => simp [intOf]; omega
            · skip
              obtain rfl : F1 = true := by rw [HF.out]; simp [hk4]
              obtain rfl : Ya = false := by rw [HY.out]; simp [hk4]
              clear HF HY HR1
              -- the two stores
              have hoth : ∀ k, k ≠ g5 → (V1.setCell ⟨g5, at9, none⟩ (.bool false)).heap[k]? = V1.heap[k]? := fun k hk => heap_setCell_other _ _ _ _ hk
              have o4 := (hoth g4 h45).trans HP4.out
              have o9 := (hoth g9 n95).trans H9.out
              have orow := (HROWV.out.set at9 (.bool false)).congr (g := fun i => .bool (hdj L1 i)) (fun i hi => by rw [HROW.out i hi, decide_eq_false hk0]; split <;> simp)
              have ota := HT.out.apart HCUR.out HNO.out HNS.out hoth
              have oma := HM.out.far HCUR.out HNO.out (fun p hp => (HGb.out p hp).2.2) hoth
              have obw := HBW.out.setCell (p := ⟨g5, at9, none⟩) hW5 (.bool false)
              have osz : (V1.setCell ⟨g5, at9, none⟩ (.bool false)).heap.size = V1.heap.size := by simp [World.setCell]
              rw [← osz] at ota oma
              have s4 := set3_same (.bool true) (.slice A1 N1 c1) (.bool true) o4
              have srow := rowIs_other orow (set3_other (g := g4) (.bool true) (.slice A1 N1 c1) (.bool true) h45.symm)
              have sta := ota.put o4 (.bool true) (.slice A1 N1 c1) (.bool true)
              have sma := oma.put o4 (fun p hp => (HGb.out p hp).2.1) (.bool true) (.slice A1 N1 c1) (.bool true)
              have sbw := Below.set3 obw hW4 (.bool true) (.slice A1 N1 c1) (.bool true)
              have ssz := set3_size (V1.setCell ⟨g5, at9, none⟩ (.bool false)) g4 (.bool true) (.slice A1 N1 c1) (.bool true)
              have HEND := Lib.hid (show InvO W (set3 (V1.setCell ⟨g5, at9, none⟩ (.bool false)) g4 (.bool true) (.slice A1 N1 c1) (.bool true)) g4 g5 (j + 1) L1 true GS A1 N1 c1 G1 M1 d1 from
                ⟨sbw, s4, srow, HN1.out, ⟨e1, e2⟩, sta, HM1.out, ⟨e3, e4⟩, sma, fun p hp => ⟨by rw [ssz, osz]; exact (HGb.out p hp).1, (HGb.out p hp).2⟩, HNJ.out, HMJ.out, H60.out, hW4, hW5, h45⟩)
              obtain ⟨u0, u1, u2⟩ := cells3 o9
              obtain ⟨v0, v1, v2⟩ := cells3 o4
              obtain ⟨w0, w1', w2'⟩ := frozen3 o4
              clear hoth o4 o9 orow ota oma obw osz s4 srow sta sma sbw ssz HROWV HT HM HBW HCUR HNO HNS HP4 H9 HROW
              go_wp2_with fail
              go_roundw
              case rel => exact ⟨j + 1, L1, true, GS, A1, N1, c1, G1, M1, d1, by omega, by go_num, rfl, HEND⟩
              case measure => simp [intOf]; omega
        · cases R
          · cases f
            · skip
              obtain rfl : F1 = false := by rw [HF.out]; simp [hk4]
              obtain rfl : Ya = false := by rw [HY.out]; simp [hk4]
              clear HF HY HR1
              -- the two stores
              have hoth : ∀ k, k ≠ g5 → (V1.setCell ⟨g5, at9, none⟩ (.bool true)).heap[k]? = V1.heap[k]? := fun k hk => heap_setCell_other _ _ _ _ hk
              have o4 := (hoth g4 h45).trans HP4.out
              have o9 := (hoth g9 n95).trans H9.out
              have orow := (HROWV.out.set at9 (.bool true)).congr (g := fun i => .bool (hdj L1 i)) (fun i hi => by rw [HROW.out i hi, decide_eq_false hk0]; split <;> simp)
              have ota := HT.out.apart HCUR.out HNO.out HNS.out hoth
              have oma := HM.out.far HCUR.out HNO.out (fun p hp => (HGb.out p hp).2.2) hoth
              have obw := HBW.out.setCell (p := ⟨g5, at9, none⟩) hW5 (.bool true)
              have osz : (V1.setCell ⟨g5, at9, none⟩ (.bool true)).heap.size = V1.heap.size := by simp [World.setCell]
              rw [← osz] at ota oma
              have s4 := set3_same (.bool true) (.slice A1 N1 c1) (.bool false) o4
              have srow := rowIs_other orow (set3_other (g := g4) (.bool true) (.slice A1 N1 c1) (.bool false) h45.symm)
              have sta := ota.put o4 (.bool true) (.slice A1 N1 c1) (.bool false)
              have sma := oma.put o4 (fun p hp => (HGb.out p hp).2.1) (.bool true) (.slice A1 N1 c1) (.bool false)
              have sbw := Below.set3 obw hW4 (.bool true) (.slice A1 N1 c1) (.bool false)
              have ssz := set3_size (V1.setCell ⟨g5, at9, none⟩ (.bool true)) g4 (.bool true) (.slice A1 N1 c1) (.bool false)
              have HEND := Lib.hid (show InvO W (set3 (V1.setCell ⟨g5, at9, none⟩ (.bool true)) g4 (.bool true) (.slice A1 N1 c1) (.bool false)) g4 g5 (j + 1) L1 false GS A1 N1 c1 G1 M1 d1 from
                ⟨sbw, s4, srow, HN1.out, ⟨e1, e2⟩, sta, HM1.out, ⟨e3, e4⟩, sma, fun p hp => ⟨by rw [ssz, osz]; exact (HGb.out p hp).1, (HGb.out p hp).2⟩, HNJ.out, HMJ.out, H60.out, hW4, hW5, h45⟩)
              obtain ⟨u0, u1, u2⟩ := cells3 o9
              obtain ⟨v0, v1, v2⟩ := cells3 o4
              obtain ⟨w0, w1', w2'⟩ := frozen3 o4
              clear hoth o4 o9 orow ota oma obw osz s4 srow sta sma sbw ssz HROWV HT HM HBW HCUR HNO HNS HP4 H9 HROW
              go_wp2_with fail
              go_roundw
              case rel => exact ⟨j + 1, L1, false, GS, A1, N1, c1, G1, M1, d1, by omega, by go_num, rfl, HEND⟩
              case measure => simp [intOf]; omega
            · skip
              obtain rfl : F1 = true := by rw [HF.out]; simp [hk4]
              obtain rfl : Ya = false := by rw [HY.out]; simp [hk4]
              clear HF HY HR1
              -- the two stores
              have hoth : ∀ k, k ≠ g5 → (V1.setCell ⟨g5, at9, none⟩ (.bool true)).heap[k]? = V1.heap[k]? := fun k hk => heap_setCell_other _ _ _ _ hk
              have o4 := (hoth g4 h45).trans HP4.out
              have o9 := (hoth g9 n95).trans H9.out
              have orow := (HROWV.out.set at9 (.bool true)).congr (g := fun i => .bool (hdj L1 i)) (fun i hi => by rw [HROW.out i hi, decide_eq_false hk0]; split <;> simp)
              have ota := HT.out.apart HCUR.out HNO.out HNS.out hoth
              have oma := HM.out.far HCUR.out HNO.out (fun p hp => (HGb.out p hp).2.2) hoth
              have obw := HBW.out.setCell (p := ⟨g5, at9, none⟩) hW5 (.bool true)
              have osz : (V1.setCell ⟨g5, at9, none⟩ (.bool true)).heap.size = V1.heap.size := by simp [World.setCell]
              rw [← osz] at ota oma
              have s4 := set3_same (.bool true) (.slice A1 N1 c1) (.bool true) o4
              have srow := rowIs_other orow (set3_other (g := g4) (.bool true) (.slice A1 N1 c1) (.bool true) h45.symm)
              have sta := ota.put o4 (.bool true) (.slice A1 N1 c1) (.bool true)
              have sma := oma.put o4 (fun p hp => (HGb.out p hp).2.1) (.bool true) (.slice A1 N1 c1) (.bool true)
              have sbw := Below.set3 obw hW4 (.bool true) (.slice A1 N1 c1) (.bool true)
              have ssz := set3_size (V1.setCell ⟨g5, at9, none⟩ (.bool true)) g4 (.bool true) (.slice A1 N1 c1) (.bool true)
              have HEND := Lib.hid (show InvO W (set3 (V1.setCell ⟨g5, at9, none⟩ (.bool true)) g4 (.bool true) (.slice A1 N1 c1) (.bool true)) g4 g5 (j + 1) L1 true GS A1 N1 c1 G1 M1 d1 from
                ⟨sbw, s4, srow, HN1.out, ⟨e1, e2⟩, sta, HM1.out, ⟨e3, e4⟩, sma, fun p hp => ⟨by rw [ssz, osz]; exact (HGb.out p hp).1, (HGb.out p hp).2⟩, HNJ.out, HMJ.out, H60.out, hW4, hW5, h45⟩)
              obtain ⟨u0, u1, u2⟩ := cells3 o9
              obtain ⟨v0, v1, v2⟩ := cells3 o4
              obtain ⟨w0, w1', w2'⟩ := frozen3 o4
              clear hoth o4 o9 orow ota oma obw osz s4 srow sta sma sbw ssz HROWV HT HM HBW HCUR HNO HNS HP4 H9 HROW
              go_wp2_with fail
              go_roundw
              case rel => exact ⟨j + 1, L1, true, GS, A1, N1, c1, G1, M1, d1, by omega, by go_num, rfl, HEND⟩
              case measure => simp [intOf]; omega
          · cases f
            · skip
              obtain rfl : F1 = false := by rw [HF.out]; simp [hk4]
              obtain rfl : Ya = true := by rw [HY.out]; simp [hk4]
              clear HF HY HR1
              -- the two stores
              have hoth : ∀ k, k ≠ g5 → (V1.setCell ⟨g5, at9, none⟩ (.bool true)).heap[k]? = V1.heap[k]? := fun k hk => heap_setCell_other _ _ _ _ hk
              have o4 := (hoth g4 h45).trans HP4.out
              have o9 := (hoth g9 n95).trans H9.out
              have orow := (HROWV.out.set at9 (.bool true)).congr (g := fun i => .bool (hdj L1 i)) (fun i hi => by rw [HROW.out i hi, decide_eq_false hk0]; split <;> simp)
              have ota := HT.out.apart HCUR.out HNO.out HNS.out hoth
              have oma := HM.out.far HCUR.out HNO.out (fun p hp => (HGb.out p hp).2.2) hoth
              have obw := HBW.out.setCell (p := ⟨g5, at9, none⟩) hW5 (.bool true)
              have osz : (V1.setCell ⟨g5, at9, none⟩ (.bool true)).heap.size = V1.heap.size := by simp [World.setCell]
              rw [← osz] at ota oma
              have s4 := set3_same (.bool true) (.slice A1 N1 c1) (.bool false) o4
              have srow := rowIs_other orow (set3_other (g := g4) (.bool true) (.slice A1 N1 c1) (.bool false) h45.symm)
              have sta := ota.put o4 (.bool true) (.slice A1 N1 c1) (.bool false)
              have sma := oma.put o4 (fun p hp => (HGb.out p hp).2.1) (.bool true) (.slice A1 N1 c1) (.bool false)
              have sbw := Below.set3 obw hW4 (.bool true) (.slice A1 N1 c1) (.bool false)
              have ssz := set3_size (V1.setCell ⟨g5, at9, none⟩ (.bool true)) g4 (.bool true) (.slice A1 N1 c1) (.bool false)
              have HEND := Lib.hid (show InvO W (set3 (V1.setCell ⟨g5, at9, none⟩ (.bool true)) g4 (.bool true) (.slice A1 N1 c1) (.bool false)) g4 g5 (j + 1) L1 false GS A1 N1 c1 G1 M1 d1 from
                ⟨sbw, s4, srow, HN1.out, ⟨e1, e2⟩, sta, HM1.out, ⟨e3, e4⟩, sma, fun p hp => ⟨by rw [ssz, osz]; exact (HGb.out p hp).1, (HGb.out p hp).2⟩, HNJ.out, HMJ.out, H60.out, hW4, hW5, h45⟩)
              obtain ⟨u0, u1, u2⟩ := cells3 o9
              obtain ⟨v0, v1, v2⟩ := cells3 o4
              obtain ⟨w0, w1', w2'⟩ := frozen3 o4
              clear hoth o4 o9 orow ota oma obw osz s4 srow sta sma sbw ssz HROWV HT HM HBW HCUR HNO HNS HP4 H9 HROW
              go_wp2_with fail
              go_roundw
              case rel => exact ⟨j + 1, L1, false, GS, A1, N1, c1, G1, M1, d1, by omega, by go_num, rfl, HEND⟩
              case measure => simp [intOf]; omega
            · skip
              obtain rfl : F1 = true := by rw [HF.out]; simp [hk4]
              obtain rfl : Ya = true := by rw [HY.out]; simp [hk4]
              clear HF HY HR1
              -- the two stores
              have hoth : ∀ k, k ≠ g5 → (V1.setCell ⟨g5, at9, none⟩ (.bool true)).heap[k]? = V1.heap[k]? := fun k hk => heap_setCell_other _ _ _ _ hk
              have o4 := (hoth g4 h45).trans HP4.out
              have o9 := (hoth g9 n95).trans H9.out
              have orow := (HROWV.out.set at9 (.bool true)).congr (g := fun i => .bool (hdj L1 i)) (fun i hi => by rw [HROW.out i hi, decide_eq_false hk0]; split <;> simp)
              have ota := HT.out.apart HCUR.out HNO.out HNS.out hoth
              have oma := HM.out.far HCUR.out HNO.out (fun p hp => (HGb.out p hp).2.2) hoth
              have obw := HBW.out.setCell (p := ⟨g5, at9, none⟩) hW5 (.bool true)
              have osz : (V1.setCell ⟨g5, at9, none⟩ (.bool true)).heap.size = V1.heap.size := by simp [World.setCell]
              rw [← osz] at ota oma
              have s4 := set3_same (.bool true) (.slice A1 N1 c1) (.bool true) o4
              have srow := rowIs_other orow (set3_other (g := g4) (.bool true) (.slice A1 N1 c1) (.bool true) h45.symm)
              have sta := ota.put o4 (.bool true) (.slice A1 N1 c1) (.bool true)
              have sma := oma.put o4 (fun p hp => (HGb.out p hp).2.1) (.bool true) (.slice A1 N1 c1) (.bool true)
              have sbw := Below.set3 obw hW4 (.bool true) (.slice A1 N1 c1) (.bool true)
              have ssz := set3_size (V1.setCell ⟨g5, at9, none⟩ (.bool true)) g4 (.bool true) (.slice A1 N1 c1) (.bool true)
              have HEND := Lib.hid (show InvO W (set3 (V1.setCell ⟨g5, at9, none⟩ (.bool true)) g4 (.bool true) (.slice A1 N1 c1) (.bool true)) g4 g5 (j + 1) L1 true GS A1 N1 c1 G1 M1 d1 from
                ⟨sbw, s4, srow, HN1.out, ⟨e1, e2⟩, sta, HM1.out, ⟨e3, e4⟩, sma, fun p hp => ⟨by rw [ssz, osz]; exact (HGb.out p hp).1, (HGb.out p hp).2⟩, HNJ.out, HMJ.out, H60.out, hW4, hW5, h45⟩)
              obtain ⟨u0, u1, u2⟩ := cells3 o9
              obtain ⟨v0, v1, v2⟩ := cells3 o4
              obtain ⟨w0, w1', w2'⟩ := frozen3 o4
              clear hoth o4 o9 orow ota oma obw osz s4 srow sta sma sbw ssz HROWV HT HM HBW HCUR HNO HNS HP4 H9 HROW
              go_wp2_with fail
              go_roundw
              case rel => exact ⟨j + 1, L1, true, GS, A1, N1, c1, G1, M1, d1, by omega, by go_num, rfl, HEND⟩
              case measure => simp [intOf]; omega
    · have hji : ¬ (j : Int) < (N : Int) := by omega
      clear h4 h5 hTA hMG hG HI hB
      go_wp2_with fail
      go_ret
      exact ⟨rfl, BW.out⟩
end Go.Proofs.YtcfncbbdlbdbnaaDoor
