
/- Package bitmap: ones (an iterator), and what Read makes of it, plain. -/
import Derived.RangeFuncNested
import Derived.RangeFuncBound
import Derived.RangeFuncCalls
import Derived.RangeFuncLeaves
import Derived.Shelf.Abstract
import Derived.Shelf.RegionOpen
import Derived.WalkKit
import Derived.OwnWalkIn
import Derived.TacticsInMore
import Derived.LoopNIn
import Derived.LoopIn
import Derived.Test.YtgojmhfiikjpnaaBmU
namespace Go.Proofs.Ytgojmhfiikjpnaa
open Go.RowKit Go.Shelf
attribute [local go_sem] Oper.semAt_some

/-- the numbers of the bits that are 1, below k -/
def onesU (D : List UInt8) : Nat → List Nat
  | 0 => []
  | k + 1 => onesU D k ++ (if 1 ≤ k ∧ hasF D k = true then [k] else [])
theorem onesU_yes (c : List UInt8) (k : Nat) (h2 : 1 ≤ k) (h : hasF c k = true) : onesU c (k + 1) = onesU c k ++ [k] := by
  show onesU c k ++ _ = _
  rw [if_pos ⟨h2, h⟩]
theorem onesU_no (c : List UInt8) (k : Nat) (h : hasF c k = false) : onesU c (k + 1) = onesU c k := by
  show onesU c k ++ _ = _
  rw [if_neg (fun hh => by rw [h] at hh; exact absurd hh.2 (by decide)), List.append_nil]
theorem onesU_1 (c : List UInt8) : onesU c 1 = [] := by simp [onesU]
theorem onesU_len (c : List UInt8) : ∀ k, (onesU c (k + 1)).length ≤ k
  | 0 => by simp [onesU]
  | k + 1 => by
    have := onesU_len c k
    show (onesU c (k + 1) ++ _).length ≤ _
    rw [List.length_append]
    split <;> simp <;> omega
/-- what Read keeps of them -/
def pickU (l : List Nat) : List Int := (l.filter (fun n => decide (n ≠ 1))).map (fun n : Nat => (n : Int))
theorem pickU_snoc_1 (l : List Nat) : pickU (l ++ [1]) = pickU l := by simp [pickU]
theorem pickU_snoc (l : List Nat) (x : Nat) (h : x ≠ 1) : pickU (l ++ [x]) = pickU l ++ [(x : Int)] := by simp [pickU, h]
theorem pickU_len (l : List Nat) : (pickU l).length ≤ l.length := by
  unfold pickU
  rw [List.length_map]
  exact List.length_filter_le _ _
theorem pick_ones (c : List UInt8) : ∀ k, pickU (onesU c k) = outU c k
  | 0 => rfl
  | k + 1 => by
    have ih := pick_ones c k
    show pickU (onesU c k ++ _) = outU c k ++ _
    by_cases h1 : 1 ≤ k ∧ hasF c k = true
    · rw [if_pos h1]
      by_cases h2 : k = 1
      · subst h2
        rw [pickU_snoc_1, ih, if_neg (fun h => by omega), List.append_nil]
      · rw [pickU_snoc _ _ h2, ih, if_pos ⟨by omega, h1.2⟩]
    · rw [if_neg h1, List.append_nil, if_neg (fun h => h1 ⟨by omega, h.2⟩), List.append_nil, ih]

theorem outU_take (C : List UInt8) (N : Nat) : ∀ k, k ≤ 8 * N + 1 → outU (C.take N) k = outU C k
  | 0, _ => rfl
  | k + 1, h => by
    show outU _ k ++ _ = outU _ k ++ _
    rw [outU_take C N k (by omega)]
    by_cases h1 : 1 ≤ k
    · rw [hasF_take C N k (by omega)]
    · rw [if_neg (fun h => by omega), if_neg (fun h => by omega)]
theorem readC_short {C : List UInt8} (p : Int) (h : takeF C = 0) : readC C p = ([], 0, 3) := by
  unfold takeF at h
  unfold readC
  split
  · rfl
  · rename_i h1
    rw [if_neg h1] at h
    split
    · rfl
    · rename_i h2
      rw [if_neg h2] at h
      have := sizeB_or (hasF C 1)
      omega
theorem takeF_or (C : List UInt8) : takeF C = 0 ∨ (takeF C = sizeB (hasF C 1) ∧ 8 ≤ C.length ∧ sizeB (hasF C 1) ≤ C.length) := by
  unfold takeF
  split
  · exact .inl rfl
  · split
    · exact .inl rfl
    · exact .inr ⟨rfl, by omega, by omega⟩
theorem outU_right (C : List UInt8) (N : Nat) (hN : N ≤ 16) : RightP (outU C (8 * N + 1)) ↔ ¬ (8 < N ∧ hasF C 65 = true) := by
  constructor
  · rintro h ⟨h1, h2⟩
    have := (h.mem ((outU_mem C (8 * N + 1) 65).2 ⟨65, rfl, by omega, by omega, h2⟩)).2.2
    exact this rfl
  · intro h
    refine right_of (fun x hx => ?_) (outU_pair C _)
    obtain ⟨m, rfl, h2, h3, h4⟩ := (outU_mem C (8 * N + 1) x).1 hx
    refine ⟨by omega, by omega, fun e => h ⟨by omega, ?_⟩⟩
    have : m = 65 := by omega
    subst this
    exact h4
theorem readC_code {C : List UInt8} (p : Int) (h : takeF C ≠ 0) : readC C p = if RightP (outU C (8 * takeF C + 1)) ∧ sizeB (wideF (outU C (8 * takeF C + 1))) = takeF C then (outU C (8 * takeF C + 1), p + (takeF C : Nat), 0) else ([], 0, 2) := by
  rcases takeF_or C with h0 | ⟨h1, h2, h3⟩
  · exact absurd h0 h
  rw [h1]
  unfold readC
  rw [if_neg (by omega), if_neg (by omega)]
  have hs := sizeB_or (hasF C 1)
  have hR := outU_right C (sizeB (hasF C 1)) (by omega)
  cases hw : hasF C 1 with
  | false =>
    rw [hw] at hR
    have hwd : wideF (outU C (8 * sizeB false + 1)) = false := by
      unfold wideF
      rw [List.any_eq_false]
      intro x hx
      obtain ⟨m, rfl, h2, h3, h4⟩ := (outU_mem C _ x).1 hx
      have : m < 8 * 8 + 1 := h3
      simp
      omega
    rw [Bool.false_and, if_neg (by decide), if_pos ⟨hR.2 (fun h => absurd h.1 (by decide)), by rw [hwd]⟩]
  | true =>
    rw [hw] at hR
    rw [Bool.true_and]
    by_cases h65 : hasF C 65 = true
    · rw [if_pos (by rw [h65]; rfl), if_neg (fun h => hR.1 h.1 ⟨by decide, h65⟩)]
    · have h65' : hasF C 65 = false := by simpa using h65
      have hr := hR.2 (fun h => h65 h.2)
      have hall : ((outU C (8 * sizeB true + 1)).all fun x => decide (x ≤ 65)) = !(wideF (outU C (8 * sizeB true + 1))) := by
        unfold wideF
        rw [Bool.eq_iff_iff, List.all_eq_true, Bool.not_eq_true', List.any_eq_false]
        constructor
        · intro h x hx
          have h1 := of_decide_eq_true (h x hx)
          have h2 := (hr.mem hx).2.2
          simp
          omega
        · intro h x hx
          have h1 := h x hx
          simp at h1
          exact decide_eq_true (by omega)
      rw [h65', Bool.false_or, hall]
      cases hwd : wideF (outU C (8 * sizeB true + 1)) with
      | true => rw [if_neg (by decide), if_pos ⟨hr, rfl⟩]
      | false => rw [if_pos (by decide), if_neg (fun h => absurd h.2 (by decide))]

/-- what a round keeps: all that lay ahead of block B, and the box Bs -/
def KpB (B Bs : Nat) (X Y : World) : Prop := Below B X Y ∧ (Bs < X.heap.size → Y.heap[Bs]? = X.heap[Bs]?)
theorem KpB.trans {B Bs : Nat} {X Y Z : World} (h : KpB B Bs X Y) (k : KpB B Bs Y Z) : KpB B Bs X Z := ⟨h.1.trans k.1, fun hl => (k.2 (Nat.lt_of_lt_of_le hl h.1.size)).trans (h.2 hl)⟩
theorem KpB.drewN {B Bs : Nat} (X : World) (k : Nat) : KpB B Bs X (X.drewN k) := ⟨below_drewN (Below.refl _ _) k, fun _ => rfl⟩
theorem KpB.refl (B Bs : Nat) (X : World) : KpB B Bs X X := ⟨Below.refl _ _, fun _ => rfl⟩
theorem KpB.put {B Bs : Nat} {w : World} (hB : B ≤ w.heap.size) (hs : Bs < w.heap.size) (W : World) (l : Nat) (o o' : Obj) (hl : w.heap.size ≤ l) (h : W.heap[l]? = some o) (h1 : o.isCells = false) (h2 : o.isWalk = false) : KpB B Bs W (W.putObj l o') :=
  ⟨belowK_b hB W l o o' hl h h1 h2, fun hlt => World.putObj_heap_other (by omega)⟩

set_option maxRecDepth 100000 in
set_option maxHeartbeats 2000000 in
theorem ones1_in (n : Nat) (hn : 1 ≤ n) (lo Bs n₀ N c : Nat) (A : Option Addr) (D : List UInt8) (hN : D.length = N) (hN2 : N ≤ 16) (J Jx : List Nat → World → Prop) (W : World) (hJ : AbidesFrom W.heap.size J)
    (hY : ∀ pre x W1, J pre W1 → pre.length < 8 * N → YieldAt Fence.wide (n - 1) Try.prog lo #[.int .i64 (x : Nat)] W1 fun e W' =>
      (e = .returned (.bool true) ∧ J (pre ++ [x]) W' ∧ KpB n₀ Bs W1 W') ∨ (e = .returned (.bool false) ∧ Jx (pre ++ [x]) W'))
    (hBs : W.cell? ⟨Bs, 0, none⟩ = some (.slice A N c)) (hn0 : n₀ ≤ Bs) (hBl : Bs < W.heap.size) (hR : Rd W n₀ A D) (h0 : J [] W) :
    CallsIn Fence.wide n Try.prog 28 #[.func (.yield lo) #[] #[], .pointer (some ⟨Bs, 0, none⟩)] W fun e W' => (∃ v, e = .returned v) ∧
      ((∃ ys, ys = onesU D (8 * N + 1) ∧ J ys W') ∨ (∃ pre, True ∧ Jx pre W')) := by
  have HL := Lib.hid hN
  have RR := Lib.hid hR
  have HJ := Lib.hid hJ
  have CI := Lib.hid (fun w (h : Below n₀ W w) (hs : n₀ ≤ w.heap.size) k (h1 : 1 ≤ k) (h2 : k ≤ 8 * N) => (show Calls Try.prog 27 #[.slice A N c, .int .i64 (k : Nat)] w fun e W' => e = .returned (.bool (hasF D k)) ∧ ∃ j, W' = w.drewN j from by
    have h3 := bIs_any A D c k w h1 (by omega) (by rw [hN]; omega) (by omega) ((hR.below h (Nat.le_refl _)).more hs)
    rw [hN] at h3
    exact h3))
  clear hN hR hJ
  refine callsIn_of_wp Try.func28 rfl trivial ?_ rfl
  simp only [Try.ntmps28, List.size_toArray, List.length_cons, List.length_nil, Nat.reduceAdd, Nat.reduceSub, Array.replicate_succ, Array.replicate_zero, List.push_toArray, List.append_toArray, List.nil_append, List.cons_append]
  gi_wp2
  gi_loopw [3] (fun i wr => ∃ k : Nat, 1 ≤ k ∧ k ≤ 8 * N + 1 ∧ i = .int .i64 k ∧ J (onesU D k) wr ∧ KpB n₀ Bs W wr)
    (fun i _ => 8 * N + 1 - (intOf i).toNat)
  case atStart => exact ⟨1, Nat.le_refl _, by omega, rfl, by rw [onesU_1]; exact h0, KpB.refl _ _ _⟩
  case round =>
    obtain ⟨k, hk1, hk, rfl, hJs, hkp⟩ := hrel
    have hsz := hkp.1.size
    have hcell : wr.cell? ⟨Bs, 0, none⟩ = some (.slice A N c) := (World.cell?_of_block (hkp.2 hBl)).trans hBs
    by_cases hlt : k ≤ 8 * N
    · have hki : (k : Int) ≤ 8 * (N : Int) := by omega
      have HC := Lib.hid (CI.out wr hkp.1 (by omega) k hk1 hlt)
      have HY := Lib.hid (fun j => hY (onesU D k) k (wr.drewN j) (HJ.out _ _ _ none hJs ⟨rfl, rfl, rfl, Nat.le_refl _, fun _ _ _ => rfl⟩ (fun r e => by cases e)) (by
        have := onesU_len D (k - 1)
        rw [show k - 1 + 1 = k by omega] at this
        omega))
      have HKP := Lib.hid hkp
      have HJS := Lib.hid (fun j => HJ.out _ _ (wr.drewN j) none hJs ⟨rfl, rfl, rfl, Nat.le_refl _, fun _ _ _ => rfl⟩ (fun r e => by cases e))
      clear hkp hJs
      cases hb : hasF D k with
      | true =>
        have HON := Lib.hid (onesU_yes D k hk1 hb)
        rw [hb] at HC
        clear hb
        gi_wp2_with (refine ⟨trivial, ?_⟩; gi_at_call 27; refine (callsIn_wide.2 HC.out).mono ?_; rintro e w1 ⟨rfl, j, rfl⟩; obtain ⟨fn, tmps, assign, body, hy, hRr⟩ := HY.out j)
        refine hRr.mono ?_
        rintro e W3 (⟨rfl, hJ3, hk3⟩ | ⟨rfl, hJx3⟩)
        · rw [← HON.out] at hJ3
          gi_wp2
          go_roundw
          case rel => exact ⟨k + 1, by omega, by omega, by go_num, hJ3, (HKP.out.trans (KpB.drewN _ _)).trans hk3⟩
          case measure => simp [intOf]; omega
        · gi_wp2
          refine bodyPost_ret (results_none rfl _ _ _) rfl ?_
          exact ⟨⟨_, rfl⟩, .inr ⟨_, trivial, hJx3⟩⟩
      | false =>
        have HON := Lib.hid (onesU_no D k hb)
        rw [hb] at HC
        clear hb
        gi_wp2_with (refine ⟨trivial, ?_⟩; gi_at_call 27; refine (callsIn_wide.2 HC.out).mono ?_; rintro e w1 ⟨rfl, j, rfl⟩)
        refine ⟨(fun _ e => nomatch e), ?_⟩
        gi_wp2
        go_roundw
        case rel => exact ⟨k + 1, by omega, by omega, by go_num, by rw [HON.out]; exact HJS.out _, HKP.out.trans (KpB.drewN _ _)⟩
        case measure => simp [intOf]; omega
    · have hki : ¬ (k : Int) ≤ 8 * (N : Int) := by omega
      have hke : k = 8 * N + 1 := by omega
      have HJS := Lib.hid (show J (onesU D (8 * N + 1)) wr from by rw [← hke]; exact hJs)
      clear hJs hke
      gi_wp2
      go_end0
      exact ⟨⟨_, rfl⟩, .inl HJS.out⟩

set_option maxRecDepth 100000 in
set_option maxHeartbeats 1000000 in
theorem ones_in (n : Nat) (a : Option Addr) (len cap : Nat) (w : World) :
    CallsIn Fence.wide n Try.prog 24 #[.slice a len cap] w fun e w' => e = .returned (.func (.func 28) #[] #[.pointer (some ⟨w.heap.size, 0, none⟩)]) ∧ w' = w.alloc (.cells #[.slice a len cap] 24) := by
  refine callsIn_of_wp Try.func24 rfl trivial ?_ rfl
  simp only [Try.ntmps24, List.size_toArray, List.length_cons, List.length_nil, Nat.reduceAdd, Nat.reduceSub, Array.replicate_succ, Array.replicate_zero, List.push_toArray, List.append_toArray, List.nil_append, List.cons_append]
  gi_wp2
  go_ret
  exact ⟨rfl, rfl⟩
theorem ones_stops (n : Nat) (hn : 1 ≤ n) (Bs N c : Nat) (A : Option Addr) (D : List UInt8) (hN : D.length = N) (hN2 : N ≤ 16) (w0 w : World) (hB : w0.heap.size ≤ Bs) (hBs : Bs < w.heap.size) (hbl : Below w0.heap.size w0 w)
    (hc : w.cell? ⟨Bs, 0, none⟩ = some (.slice A N c)) (hR : Rd w0 w0.heap.size A D) :
    SeqStopsK Fence.wide n Try.prog 28 #[.pointer (some ⟨Bs, 0, none⟩)] (fun x : Nat => #[.int .i64 (x : Nat)]) (KpB w0.heap.size Bs) (fun ys => ys = onesU D (8 * N + 1)) (fun _ => True) (8 * N) w := fun lo J Jx W hW hJ _ hY h0 => by
  have hW0 : Below w0.heap.size w0 W := hbl.trans (hW.mono hbl.size)
  exact ones1_in n hn lo Bs w0.heap.size N c A D hN hN2 J Jx W hJ hY ((hW.cell (p := ⟨Bs, 0, none⟩) hBs).trans hc) hB (Nat.lt_of_lt_of_le hBs hW.size) (hR.below hW0 (Nat.le_refl _)) h0
end Go.Proofs.Ytgojmhfiikjpnaa
