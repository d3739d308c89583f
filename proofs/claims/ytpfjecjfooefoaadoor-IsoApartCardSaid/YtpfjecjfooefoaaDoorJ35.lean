
/- Package bitmap: Write. -/
import Derived.Test.YtpfjecjfooefoaaDoorJ34
import Derived.RangeFuncNested
import Derived.RangeFuncBound
import Derived.RangeFuncCalls
import Derived.RangeFuncLeaves
import Derived.Shelf.Abstract
import Derived.Shelf.RegionOpen
import Derived.WalkKit
import Derived.OwnWalkIn
import Derived.TacticsInMore
import Derived.LoopNIn
import Derived.LoopIn
namespace Go.Proofs.YtpfjecjfooefoaaDoor
open Go.RowKit

set_option maxRecDepth 100000 in
theorem bytN_or (p q : Nat → Bool) (x j : Nat) (h1 : 1 ≤ x) (hq : ∀ n, q n = (p n || decide (n = x))) (hj : j = (x - 1) / 8) : bytN q j = bytN p j ||| 2 ^ (7 - (x - 1) % 8) := by
  apply Nat.eq_of_testBit_eq
  intro i
  rw [Nat.testBit_or, Nat.testBit_two_pow]
  by_cases hi : i < 8
  · have hb := bytN_bit q j (7 - i) (by omega)
    have hb2 := bytN_bit p j (7 - i) (by omega)
    rw [show 7 - (7 - i) = i by omega] at hb hb2
    rw [hb, hb2, hq]
    congr 1
    exact decide_eq_decide.2 (by omega)
  · have p2 : 256 ≤ 2 ^ i := by
      have := Nat.pow_le_pow_right (show 1 ≤ 2 by decide) (show 8 ≤ i by omega)
      simpa using this
    rw [Nat.testBit_lt_two_pow (Nat.lt_of_lt_of_le (bytN_lt q j) p2), Nat.testBit_lt_two_pow (Nat.lt_of_lt_of_le (bytN_lt p j) p2), decide_eq_false (by omega)]
    rfl
set_option maxRecDepth 100000 in
theorem bytN_same (p q : Nat → Bool) (x j : Nat) (h1 : 1 ≤ x) (hq : ∀ n, q n = (p n || decide (n = x))) (hj : ¬ j = (x - 1) / 8) : bytN q j = bytN p j := by
  unfold bytN
  rw [hq, hq, hq, hq, hq, hq, hq, hq, decide_eq_false (show ¬ 8 * j + 1 = x by omega), decide_eq_false (show ¬ 8 * j + 2 = x by omega), decide_eq_false (show ¬ 8 * j + 3 = x by omega), decide_eq_false (show ¬ 8 * j + 4 = x by omega), decide_eq_false (show ¬ 8 * j + 5 = x by omega), decide_eq_false (show ¬ 8 * j + 6 = x by omega), decide_eq_false (show ¬ 8 * j + 7 = x by omega), decide_eq_false (show ¬ 8 * j + 8 = x by omega)]
  simp only [Bool.or_false]
/-- what the code sets: bit 1 first, where there are two rows -/
def aF (l : List Int) : List Int := if wideF l = true then 1 :: l else l
def kF (l : List Int) : Nat := if wideF l = true then 1 else 0
set_option maxRecDepth 100000 in
theorem setU_step {a : List Int} (k x : Nat) (hk : k < a.length) (hx : a[k] = (x : Int)) : ∀ n, setU a (k + 1) n = (setU a k n || decide (n = x)) := by
  intro n
  unfold setU
  rw [List.take_succ_eq_append_getElem hk, hx, Bool.eq_iff_iff, Bool.or_eq_true, decide_eq_true_iff, decide_eq_true_iff, decide_eq_true_iff, List.mem_append, List.mem_singleton]
  constructor
  · rintro (h1 | h1)
    · exact .inl h1
    · exact .inr (by omega)
  · rintro (h1 | h1)
    · exact .inl h1
    · exact .inr (by omega)
set_option maxRecDepth 100000 in
theorem or_row {a : List Int} (k x q : Nat) (hk : k < a.length) (hx : a[k] = (x : Int)) (h1 : 1 ≤ x) : orF (rowB a k) x (bytN (setU a k) ((x - 1) / 8)) q = rowB a (k + 1) q := by
  unfold orF
  by_cases e : q = (x - 1) / 8
  · rw [if_pos e]
    unfold rowB
    rw [e, bytN_or (setU a k) (setU a (k + 1)) x _ h1 (setU_step k x hk hx) rfl]
  · rw [if_neg e]
    unfold rowB
    rw [bytN_same (setU a k) (setU a (k + 1)) x _ h1 (setU_step k x hk hx) e]
set_option maxRecDepth 100000 in
theorem aF_get {l : List Int} (k : Nat) (hk : k < l.length) : ∃ h : kF l + k < (aF l).length, (aF l)[kF l + k] = l[k] := by
  unfold aF kF
  split
  · refine ⟨by simp; omega, ?_⟩
    simp [Nat.add_comm 1 k]
  · exact ⟨by omega, by simp⟩
set_option maxRecDepth 100000 in
theorem aF_all (l : List Int) (k : Nat) (hk : l.length ≤ k) (j : Nat) : bytN (setU (aF l) (kF l + k)) j = bytN (setF l) j := by
  refine bytN_congr (fun n hn => ?_) j
  unfold setU setF
  rw [List.take_of_length_le (by unfold aF kF; split <;> simp <;> omega), Bool.eq_iff_iff, Bool.or_eq_true, Bool.and_eq_true, decide_eq_true_iff, decide_eq_true_iff, decide_eq_true_iff]
  unfold aF
  split
  · rename_i hw
    rw [List.mem_cons]
    constructor
    · rintro (h | h)
      · exact .inr ⟨by omega, hw⟩
      · exact .inl h
    · rintro (h | ⟨h1, h⟩)
      · exact .inr h
      · exact .inl (by omega)
  · rename_i hw
    constructor
    · exact .inl
    · rintro (h | ⟨h1, h⟩)
      · exact h
      · exact absurd h hw
set_option maxRecDepth 100000 in
theorem size_wide {l : List Int} (h : RightP l) : (l.getLast?.any fun x => decide (64 < x)) = wideF l := by
  rcases List.eq_nil_or_concat l with rfl | ⟨l0, z, rfl⟩
  · rfl
  · rw [List.concat_eq_append] at *
    rw [wide_last h l0.length (by simp)]
    simp

set_option maxRecDepth 100000 in
set_option maxHeartbeats 4000000 in
theorem bWrite_any (A : Option Addr) (l : List Int) (c : Nat) (W : World) (hl : l.length ≤ 1000) (hz : I64s l) (hr : RdI W W.heap.size A l) :
    Calls Tryd.prog 37 #[.slice A l.length c] W fun e W' => Ans W' e (bmW l) (bmW l).length (.int .i64 (bmE l)) ∧ Below W.heap.size W W' := by
  have CR := Lib.hid (bRight_any A l c W (by omega) hz hr)
  by_cases hR : RightP l
  · have hw : bmW l = writeB l := by unfold bmW; rw [if_pos hR]
    have he : bmE l = 0 := by unfold bmE; rw [if_pos hR]
    rw [hw, he, writeB_length]
    rw [decide_eq_true hR] at CR
    have HBD := Lib.hid (fun (x : Int) hx => hR.mem (x := x) hx)
    have HALL := Lib.hid (fun k hk j => aF_all l k hk j)
    have HGET := Lib.hid (fun k hk => aF_get (l := l) k hk)
    have HWR := Lib.hid (show ∀ j (hj : j < (writeB l).length), (writeB l)[j] = bytF (setF l) j from fun j hj => by simp [writeB])
    have HWL := Lib.hid (writeB_length l)
    have HNO := Lib.hid (fun (h : wideF l = false) x hx => wide_no h (x := x) hx)
    have RA := Lib.hid (fun w (h : Below W.heap.size W w) => (hr.below h (Nat.le_refl _)).more h.size)
    have CS := Lib.hid (fun w (h : Below W.heap.size W w) => (show Calls Tryd.prog 71 #[.slice A l.length c] w fun e W' => e = .returned (.int .i64 (sizeB (wideF l) : Nat)) ∧ W' = w from by
      have h2 := bSize_any A l c w hl ((hr.below h (Nat.le_refl _)).more h.size)
      rw [size_wide hR] at h2
      exact h2))
    obtain ⟨i0, hi, hz0, hz1, hz2⟩ := info_parts info5
    clear hw he hr hR hz
    obtain ⟨n, hn⟩ : ∃ n, n = l.length := ⟨_, rfl⟩
    have HN := Lib.hid hn
    rw [← hn] at hl CR CS ⊢
    clear hn
    cases hwd : wideF l with
    | true =>
      have HK := Lib.hid (show kF l = 1 by unfold kF; rw [hwd]; rfl)
      have HNO2 := Lib.hid (show ∀ x, x ∈ l → 1 ≤ x ∧ x ≤ 128 from fun x hx => by have := HBD.out x hx; omega)
      have HA0 := Lib.hid (show ∃ r, aF l = 1 :: r from ⟨l, by unfold aF; rw [hwd]; rfl⟩)
      rw [hwd] at HWL CS
      rw [HK.out] at HALL HGET
      clear HNO HBD
      obtain ⟨a, ha⟩ : ∃ a, a = aF l := ⟨_, rfl⟩
      rw [← ha] at HALL HGET HA0
      clear ha hwd HK
      go_enter Tryd.func37, Tryd.ntmps37
      go_wp2_with fail
      refine CR.out.mono ?_
      rintro e w1 ⟨rfl, hb⟩
      have HB1 := Lib.hid hb
      clear hb CR
      go_wp2_with fail
      refine (CS.out _ HB1.out).mono ?_
      rintro e w2 ⟨rfl, rfl⟩
      clear CS
      rw [show ((sizeB true : Nat) : Int) = 16 from rfl]
      go_wp2_with (at_make; refine wpList_make_row w2 rfl _ _ 27 rfl 5 i0 (.int .u8 0) Tryd.underlying27 hi hz0 hz1 rfl .i64 .i64 16 rfl rfl (by rw [hz2]; omega) (by omega) ?_)
      have hrow := World.rowIs_made w2 (.int .u8 0) 16 5
      have hbm := (Below.refl w2.heap.size w2).alloc (Nat.le_refl _) (.cells (madeCells #[.int .u8 0] 16) 5)
      obtain ⟨V, hV⟩ : ∃ V, V = w2.alloc (.cells (madeCells #[.int .u8 0] 16) 5) := ⟨_, rfl⟩
      rw [← hV] at hrow hbm ⊢
      have HBV := Lib.hid (HB1.out.trans (hbm.mono HB1.out.size))
      obtain ⟨g, hg⟩ : ∃ g, g = w2.heap.size := ⟨_, rfl⟩
      rw [← hg] at hrow ⊢
      have HG := Lib.hid (show W.heap.size ≤ g by rw [hg]; exact HB1.out.size)
      have HROW := Lib.hid hrow
      clear hV hrow hbm hg
      have HR0 := Lib.hid (HROW.out.congr (g := rowB a 0) (fun j _ => by unfold rowB; rw [bytN_zero _ (fun n => by unfold setU; rw [List.take_zero]; rfl)]; rfl))
      clear HROW
      have CS1 := Lib.hid (show Calls Tryd.prog 72 #[.slice (some ⟨g, 0, none⟩) 16 16, .int .i64 1] V fun e W' => e = .returned (.tuple #[]) ∧ W'.rowIs g 5 16 (orF (rowB a 0) 1 (bytN (setU a 0) ((1 - 1) / 8))) ∧ Below g V W' from
        bSet_any g 16 16 (rowB a 0) 1 (bytN (setU a 0) ((1 - 1) / 8)) V (by omega) (by omega) (by omega) (by decide) HR0.out rfl (bytN_lt _ _))
      clear HR0
      go_wp2_with fail
      refine CS1.out.mono ?_
      rintro e w3 ⟨rfl, hrow3, hb3⟩
      have HROW3 := Lib.hid (hrow3.congr (g := rowB a 1) (fun q _ => by
        obtain ⟨r, hr⟩ := HA0.out
        exact or_row 0 1 q (by rw [hr]; simp) (by simp [hr]) (by omega)))
      have HB3 := Lib.hid hb3
      clear hrow3 hb3 CS1
      go_wp2
      go_loopw [20] (fun i wr => ∃ k : Nat, k ≤ n ∧ i = .int .i64 k ∧ wr.rowIs g 5 16 (rowB a (1 + k)) ∧ Below g V wr) (fun i _ => n - (intOf i).toNat)
      case atStart => exact ⟨0, Nat.zero_le _, rfl, HROW3.out, HB3.out⟩
      case round =>
        obtain ⟨k, hk, rfl, hrow, hbel⟩ := hrel
        have HRW := Lib.hid hrow
        have HB := Lib.hid hbel
        clear hrow hbel
        by_cases hlt : k < n
        · have hkl : k < l.length := by rw [← HN.out]; exact hlt
          have hbw : Below W.heap.size W wr := HBV.out.trans (HB.out.mono HG.out)
          obtain ⟨b1, o1, e1, hb1, hc1⟩ := (RA.out wr hbw).at_ hkl
          have hm1 := HNO2.out _ (List.getElem_mem hkl)
          obtain ⟨hka, hga⟩ := HGET.out k hkl
          obtain ⟨x, hx⟩ : ∃ x : Nat, l[k] = (x : Int) := ⟨(l[k]).toNat, by omega⟩
          rw [hx] at hc1 hm1 hga
          have hx1 : 1 ≤ x := by omega
          have CS2 := Lib.hid (bSet_any g 16 16 (rowB a (1 + k)) x (bytN (setU a (1 + k)) ((x - 1) / 8)) wr hx1 (by omega) (by omega) (by omega) HRW.out rfl (bytN_lt _ _))
          have HOR := Lib.hid (fun q => or_row (1 + k) x q hka hga hx1)
          have hki : (k : Int) < (n : Int) := by omega
          have hk0 : (0 : Int) ≤ (k : Int) := Int.natCast_nonneg _
          generalize bytN (setU a (1 + k)) ((x - 1) / 8) = y at *
          cases e1
          clear hm1 hx hx1 hkl hb1 hka hga hbw
          go_wp2_with fail
          refine CS2.out.mono ?_
          rintro e w4 ⟨rfl, hrow4, hb4⟩
          have HROW4 := Lib.hid (hrow4.congr (fun q _ => HOR.out q))
          have HB4 := Lib.hid (HB.out.trans hb4)
          clear hrow4 hb4 CS2 HOR
          go_wp2
          go_roundw
          case rel => exact ⟨k + 1, by omega, by go_num, HROW4.out, HB4.out⟩
          case measure => simp [intOf]; omega
        · have hki : ¬ (k : Int) < (n : Int) := by omega
          have HSL := Lib.hid (Sl.row HRW.out HWL.out (by decide) (fun j hj => by
            unfold rowB
            rw [HWR.out j hj, bytF_nat, HALL.out k (by rw [← HN.out]; omega) j]))
          clear HRW
          go_wp2
          go_ret2
          obtain ⟨A9, c9, e9, hc9, hm9, hr9⟩ := HSL.out
          have HL := HWL.out
          refine ⟨⟨some ⟨g, 0, none⟩, 16, rfl, Nat.le_refl _, by decide, ?_⟩, HBV.out.trans (HB.out.mono HG.out)⟩
          injection e9 with e91 e92 e93
          rw [e91]
          exact hr9
    | false =>
      have HK := Lib.hid (show kF l = 0 by unfold kF; rw [hwd]; rfl)
      have HNO2 := Lib.hid (show ∀ x, x ∈ l → 1 ≤ x ∧ x ≤ 64 from fun x hx => by have := HBD.out x hx; have := HNO.out hwd x hx; omega)
      have HA0 := Lib.hid (show True from trivial)
      rw [hwd] at HWL CS
      rw [HK.out] at HALL HGET
      clear HNO HBD
      obtain ⟨a, ha⟩ : ∃ a, a = aF l := ⟨_, rfl⟩
      rw [← ha] at HALL HGET
      clear ha hwd HK
      go_enter Tryd.func37, Tryd.ntmps37
      go_wp2_with fail
      refine CR.out.mono ?_
      rintro e w1 ⟨rfl, hb⟩
      have HB1 := Lib.hid hb
      clear hb CR
      go_wp2_with fail
      refine (CS.out _ HB1.out).mono ?_
      rintro e w2 ⟨rfl, rfl⟩
      clear CS
      rw [show ((sizeB false : Nat) : Int) = 8 from rfl]
      go_wp2_with (at_make; refine wpList_make_row w2 rfl _ _ 27 rfl 5 i0 (.int .u8 0) Tryd.underlying27 hi hz0 hz1 rfl .i64 .i64 8 rfl rfl (by rw [hz2]; omega) (by omega) ?_)
      have hrow := World.rowIs_made w2 (.int .u8 0) 8 5
      have hbm := (Below.refl w2.heap.size w2).alloc (Nat.le_refl _) (.cells (madeCells #[.int .u8 0] 8) 5)
      obtain ⟨V, hV⟩ : ∃ V, V = w2.alloc (.cells (madeCells #[.int .u8 0] 8) 5) := ⟨_, rfl⟩
      rw [← hV] at hrow hbm ⊢
      have HBV := Lib.hid (HB1.out.trans (hbm.mono HB1.out.size))
      obtain ⟨g, hg⟩ : ∃ g, g = w2.heap.size := ⟨_, rfl⟩
      rw [← hg] at hrow ⊢
      have HG := Lib.hid (show W.heap.size ≤ g by rw [hg]; exact HB1.out.size)
      have HROW := Lib.hid hrow
      clear hV hrow hbm hg
      go_wp2
      go_loopw [20] (fun i wr => ∃ k : Nat, k ≤ n ∧ i = .int .i64 k ∧ wr.rowIs g 5 8 (rowB a (0 + k)) ∧ Below g V wr) (fun i _ => n - (intOf i).toNat)
      case atStart => exact ⟨0, Nat.zero_le _, rfl, HROW.out.congr (fun j _ => by unfold rowB; rw [bytN_zero _ (fun n => by unfold setU; rw [List.take_zero]; rfl)]; rfl), Below.refl _ _⟩
      case round =>
        obtain ⟨k, hk, rfl, hrow, hbel⟩ := hrel
        have HRW := Lib.hid hrow
        have HB := Lib.hid hbel
        clear hrow hbel
        by_cases hlt : k < n
        · have hkl : k < l.length := by rw [← HN.out]; exact hlt
          have hbw : Below W.heap.size W wr := HBV.out.trans (HB.out.mono HG.out)
          obtain ⟨b1, o1, e1, hb1, hc1⟩ := (RA.out wr hbw).at_ hkl
          have hm1 := HNO2.out _ (List.getElem_mem hkl)
          obtain ⟨hka, hga⟩ := HGET.out k hkl
          obtain ⟨x, hx⟩ : ∃ x : Nat, l[k] = (x : Int) := ⟨(l[k]).toNat, by omega⟩
          rw [hx] at hc1 hm1 hga
          have hx1 : 1 ≤ x := by omega
          have CS2 := Lib.hid (bSet_any g 8 8 (rowB a (0 + k)) x (bytN (setU a (0 + k)) ((x - 1) / 8)) wr hx1 (by omega) (by omega) (by omega) HRW.out rfl (bytN_lt _ _))
          have HOR := Lib.hid (fun q => or_row (0 + k) x q hka hga hx1)
          have hki : (k : Int) < (n : Int) := by omega
          have hk0 : (0 : Int) ≤ (k : Int) := Int.natCast_nonneg _
          generalize bytN (setU a (0 + k)) ((x - 1) / 8) = y at *
          cases e1
          clear hm1 hx hx1 hkl hb1 hka hga hbw
          go_wp2_with fail
          refine CS2.out.mono ?_
          rintro e w4 ⟨rfl, hrow4, hb4⟩
          have HROW4 := Lib.hid (hrow4.congr (fun q _ => HOR.out q))
          have HB4 := Lib.hid (HB.out.trans hb4)
          clear hrow4 hb4 CS2 HOR
          go_wp2
          go_roundw
          case rel => exact ⟨k + 1, by omega, by go_num, HROW4.out, HB4.out⟩
          case measure => simp [intOf]; omega
        · have hki : ¬ (k : Int) < (n : Int) := by omega
          have HSL := Lib.hid (Sl.row HRW.out HWL.out (by decide) (fun j hj => by
            unfold rowB
            rw [HWR.out j hj, bytF_nat, HALL.out k (by rw [← HN.out]; omega) j]))
          clear HRW
          go_wp2
          go_ret2
          obtain ⟨A9, c9, e9, hc9, hm9, hr9⟩ := HSL.out
          have HL := HWL.out
          refine ⟨⟨some ⟨g, 0, none⟩, 8, rfl, Nat.le_refl _, by decide, ?_⟩, HBV.out.trans (HB.out.mono HG.out)⟩
          injection e9 with e91 e92 e93
          rw [e91]
          exact hr9
  · have hw : bmW l = [] := by unfold bmW; rw [if_neg hR]
    have he : bmE l = 1 := by unfold bmE; rw [if_neg hR]
    rw [hw, he]
    rw [decide_eq_false hR] at CR
    generalize l.length = n at *
    clear hw he hr hR hz
    go_enter Tryd.func37, Tryd.ntmps37
    go_wp2_with fail
    refine CR.out.mono ?_
    rintro e w1 ⟨rfl, hb⟩
    have HB := Lib.hid hb
    clear hb CR
    go_wp2
    go_ret2
    exact ⟨AnsG.none, HB.out⟩
end Go.Proofs.YtpfjecjfooefoaaDoor
/- Package bitmap: ones (an iterator), and what Read makes of it, plain. -/

namespace Go.Proofs.YtpfjecjfooefoaaDoor
open Go.RowKit Go.Shelf
attribute [local go_sem] Oper.semAt_some

/-- the numbers of the bits that are 1, below k -/
def onesU (D : List UInt8) : Nat → List Nat
  | 0 => []
  | k + 1 => onesU D k ++ (if 1 ≤ k ∧ hasF D k = true then [k] else [])
set_option maxRecDepth 100000 in
theorem onesU_yes (c : List UInt8) (k : Nat) (h2 : 1 ≤ k) (h : hasF c k = true) : onesU c (k + 1) = onesU c k ++ [k] := by
  show onesU c k ++ _ = _
  rw [if_pos ⟨h2, h⟩]
set_option maxRecDepth 100000 in
theorem onesU_no (c : List UInt8) (k : Nat) (h : hasF c k = false) : onesU c (k + 1) = onesU c k := by
  show onesU c k ++ _ = _
  rw [if_neg (fun hh => by rw [h] at hh; exact absurd hh.2 (by decide)), List.append_nil]
set_option maxRecDepth 100000 in
theorem onesU_1 (c : List UInt8) : onesU c 1 = [] := by simp [onesU]
set_option maxRecDepth 100000 in
theorem onesU_len (c : List UInt8) : ∀ k, (onesU c (k + 1)).length ≤ k
  | 0 => by simp [onesU]
  | k + 1 => by
    have := onesU_len c k
    show (onesU c (k + 1) ++ _).length ≤ _
    rw [List.length_append]
    split <;> simp <;> omega
/-- what Read keeps of them -/
def pickU (l : List Nat) : List Int := (l.filter (fun n => decide (n ≠ 1))).map (fun n : Nat => (n : Int))
set_option maxRecDepth 100000 in
theorem pickU_snoc_1 (l : List Nat) : pickU (l ++ [1]) = pickU l := by simp [pickU]
set_option maxRecDepth 100000 in
theorem pickU_snoc (l : List Nat) (x : Nat) (h : x ≠ 1) : pickU (l ++ [x]) = pickU l ++ [(x : Int)] := by simp [pickU, h]
set_option maxRecDepth 100000 in
theorem pickU_len (l : List Nat) : (pickU l).length ≤ l.length := by
  unfold pickU
  rw [List.length_map]
  exact List.length_filter_le _ _
set_option maxRecDepth 100000 in
theorem pick_ones (c : List UInt8) : ∀ k, pickU (onesU c k) = outU c k
  | 0 => rfl
  | k + 1 => by
    have ih := pick_ones c k
    show pickU (onesU c k ++ _) = outU c k ++ _
    by_cases h1 : 1 ≤ k ∧ hasF c k = true
    · rw [if_pos h1]
      by_cases h2 : k = 1
      · subst h2
        rw [pickU_snoc_1, ih, if_neg (fun h => by omega), List.append_nil]
      · rw [pickU_snoc _ _ h2, ih, if_pos ⟨by omega, h1.2⟩]
    · rw [if_neg h1, List.append_nil, if_neg (fun h => h1 ⟨by omega, h.2⟩), List.append_nil, ih]

set_option maxRecDepth 100000 in
theorem outU_take (C : List UInt8) (N : Nat) : ∀ k, k ≤ 8 * N + 1 → outU (C.take N) k = outU C k
  | 0, _ => rfl
  | k + 1, h => by
    show outU _ k ++ _ = outU _ k ++ _
    rw [outU_take C N k (by omega)]
    by_cases h1 : 1 ≤ k
    · rw [hasF_take C N k (by omega)]
    · rw [if_neg (fun h => by omega), if_neg (fun h => by omega)]
set_option maxRecDepth 100000 in
theorem readC_short {C : List UInt8} (p : Int) (h : takeF C = 0) : readC C p = ([], 0, 3) := by
  unfold takeF at h
  unfold readC
  split
  · rfl
  · rename_i h1
    rw [if_neg h1] at h
    split
    · rfl
    · rename_i h2
      rw [if_neg h2] at h
      have := sizeB_or (hasF C 1)
      omega
set_option maxRecDepth 100000 in
theorem takeF_or (C : List UInt8) : takeF C = 0 ∨ (takeF C = sizeB (hasF C 1) ∧ 8 ≤ C.length ∧ sizeB (hasF C 1) ≤ C.length) := by
  unfold takeF
  split
  · exact .inl rfl
  · split
    · exact .inl rfl
    · exact .inr ⟨rfl, by omega, by omega⟩
set_option maxRecDepth 100000 in
theorem outU_right (C : List UInt8) (N : Nat) (hN : N ≤ 16) : RightP (outU C (8 * N + 1)) ↔ ¬ (8 < N ∧ hasF C 65 = true) := by
  constructor
  · rintro h ⟨h1, h2⟩
    have := (h.mem ((outU_mem C (8 * N + 1) 65).2 ⟨65, rfl, by omega, by omega, h2⟩)).2.2
    exact this rfl
  · intro h
    refine right_of (fun x hx => ?_) (outU_pair C _)
    obtain ⟨m, rfl, h2, h3, h4⟩ := (outU_mem C (8 * N + 1) x).1 hx
    refine ⟨by omega, by omega, fun e => h ⟨by omega, ?_⟩⟩
    have : m = 65 := by omega
    subst this
    exact h4
set_option maxRecDepth 100000 in
theorem readC_code {C : List UInt8} (p : Int) (h : takeF C ≠ 0) : readC C p = if RightP (outU C (8 * takeF C + 1)) ∧ sizeB (wideF (outU C (8 * takeF C + 1))) = takeF C then (outU C (8 * takeF C + 1), p + (takeF C : Nat), 0) else ([], 0, 2) := by
  rcases takeF_or C with h0 | ⟨h1, h2, h3⟩
  · exact absurd h0 h
  rw [h1]
  unfold readC
  rw [if_neg (by omega), if_neg (by omega)]
  have hs := sizeB_or (hasF C 1)
  have hR := outU_right C (sizeB (hasF C 1)) (by omega)
  cases hw : hasF C 1 with
  | false =>
    rw [hw] at hR
    have hwd : wideF (outU C (8 * sizeB false + 1)) = false := by
      unfold wideF
      rw [List.any_eq_false]
      intro x hx
      obtain ⟨m, rfl, h2, h3, h4⟩ := (outU_mem C _ x).1 hx
      have : m < 8 * 8 + 1 := h3
      simp
      omega
    rw [Bool.false_and, if_neg (by decide), if_pos ⟨hR.2 (fun h => absurd h.1 (by decide)), by rw [hwd]⟩]
  | true =>
    rw [hw] at hR
    rw [Bool.true_and]
    by_cases h65 : hasF C 65 = true
    · rw [if_pos (by rw [h65]; rfl), if_neg (fun h => hR.1 h.1 ⟨by decide, h65⟩)]
    · have h65' : hasF C 65 = false := by simpa using h65
      have hr := hR.2 (fun h => h65 h.2)
      have hall : ((outU C (8 * sizeB true + 1)).all fun x => decide (x ≤ 65)) = !(wideF (outU C (8 * sizeB true + 1))) := by
        unfold wideF
        rw [Bool.eq_iff_iff, List.all_eq_true, Bool.not_eq_true', List.any_eq_false]
        constructor
        · intro h x hx
          have h1 := of_decide_eq_true (h x hx)
          have h2 := (hr.mem hx).2.2
          simp
          omega
        · intro h x hx
          have h1 := h x hx
          simp at h1
          exact decide_eq_true (by omega)
      rw [h65', Bool.false_or, hall]
      cases hwd : wideF (outU C (8 * sizeB true + 1)) with
      | true => rw [if_neg (by decide), if_pos ⟨hr, rfl⟩]
      | false => rw [if_pos (by decide), if_neg (fun h => absurd h.2 (by decide))]

/-- what a round keeps: all that lay ahead of block B, and the box Bs -/
def KpB (B Bs : Nat) (X Y : World) : Prop := Below B X Y ∧ (Bs < X.heap.size → Y.heap[Bs]? = X.heap[Bs]?)
set_option maxRecDepth 100000 in
theorem KpB.trans {B Bs : Nat} {X Y Z : World} (h : KpB B Bs X Y) (k : KpB B Bs Y Z) : KpB B Bs X Z := ⟨h.1.trans k.1, fun hl => (k.2 (Nat.lt_of_lt_of_le hl h.1.size)).trans (h.2 hl)⟩
set_option maxRecDepth 100000 in
theorem KpB.drewN {B Bs : Nat} (X : World) (k : Nat) : KpB B Bs X (X.drewN k) := ⟨below_drewN (Below.refl _ _) k, fun _ => rfl⟩
set_option maxRecDepth 100000 in
theorem KpB.refl (B Bs : Nat) (X : World) : KpB B Bs X X := ⟨Below.refl _ _, fun _ => rfl⟩
set_option maxRecDepth 100000 in
theorem KpB.put {B Bs : Nat} {w : World} (hB : B ≤ w.heap.size) (hs : Bs < w.heap.size) (W : World) (l : Nat) (o o' : Obj) (hl : w.heap.size ≤ l) (h : W.heap[l]? = some o) (h1 : o.isCells = false) (h2 : o.isWalk = false) : KpB B Bs W (W.putObj l o') :=
  ⟨belowK_b hB W l o o' hl h h1 h2, fun hlt => World.putObj_heap_other (by omega)⟩

set_option maxRecDepth 100000 in
set_option maxHeartbeats 2000000 in
theorem ones1_in (n : Nat) (hn : 1 ≤ n) (lo Bs n₀ N c : Nat) (A : Option Addr) (D : List UInt8) (hN : D.length = N) (hN2 : N ≤ 16) (J Jx : List Nat → World → Prop) (W : World) (hJ : AbidesFrom W.heap.size J)
    (hY : ∀ pre x W1, J pre W1 → pre.length < 8 * N → YieldAt Fence.wide (n - 1) Tryd.prog lo #[.int .i64 (x : Nat)] W1 fun e W' =>
      (e = .returned (.bool true) ∧ J (pre ++ [x]) W' ∧ KpB n₀ Bs W1 W') ∨ (e = .returned (.bool false) ∧ Jx (pre ++ [x]) W'))
    (hBs : W.cell? ⟨Bs, 0, none⟩ = some (.slice A N c)) (hn0 : n₀ ≤ Bs) (hBl : Bs < W.heap.size) (hR : Rd W n₀ A D) (h0 : J [] W) :
    CallsIn Fence.wide n Tryd.prog 110 #[.func (.yield lo) #[] #[], .pointer (some ⟨Bs, 0, none⟩)] W fun e W' => (∃ v, e = .returned v) ∧
      ((∃ ys, ys = onesU D (8 * N + 1) ∧ J ys W') ∨ (∃ pre, True ∧ Jx pre W')) := by
  have HL := Lib.hid hN
  have RR := Lib.hid hR
  have HJ := Lib.hid hJ
  have CI := Lib.hid (fun w (h : Below n₀ W w) (hs : n₀ ≤ w.heap.size) k (h1 : 1 ≤ k) (h2 : k ≤ 8 * N) => (show Calls Tryd.prog 109 #[.slice A N c, .int .i64 (k : Nat)] w fun e W' => e = .returned (.bool (hasF D k)) ∧ ∃ j, W' = w.drewN j from by
    have h3 := bIs_any A D c k w h1 (by omega) (by rw [hN]; omega) (by omega) ((hR.below h (Nat.le_refl _)).more hs)
    rw [hN] at h3
    exact h3))
  clear hN hR hJ
  refine callsIn_of_wp Tryd.func110 rfl trivial ?_ rfl
  simp only [Tryd.ntmps110, List.size_toArray, List.length_cons, List.length_nil, Nat.reduceAdd, Nat.reduceSub, Array.replicate_succ, Array.replicate_zero, List.push_toArray, List.append_toArray, List.nil_append, List.cons_append]
  gi_wp2
  gi_loopw [3] (fun i wr => ∃ k : Nat, 1 ≤ k ∧ k ≤ 8 * N + 1 ∧ i = .int .i64 k ∧ J (onesU D k) wr ∧ KpB n₀ Bs W wr)
    (fun i _ => 8 * N + 1 - (intOf i).toNat)
  case atStart => exact ⟨1, Nat.le_refl _, by omega, rfl, by rw [onesU_1]; exact h0, KpB.refl _ _ _⟩
  case round =>
    obtain ⟨k, hk1, hk, rfl, hJs, hkp⟩ := hrel
    have hsz := hkp.1.size
    have hcell : wr.cell? ⟨Bs, 0, none⟩ = some (.slice A N c) := (World.cell?_of_block (hkp.2 hBl)).trans hBs
    by_cases hlt : k ≤ 8 * N
    · have hki : (k : Int) ≤ 8 * (N : Int) := by omega
      have HC := Lib.hid (CI.out wr hkp.1 (by omega) k hk1 hlt)
      have HY := Lib.hid (fun j => hY (onesU D k) k (wr.drewN j) (HJ.out _ _ _ none hJs ⟨rfl, rfl, rfl, Nat.le_refl _, fun _ _ _ => rfl⟩ (fun r e => by cases e)) (by
        have := onesU_len D (k - 1)
        rw [show k - 1 + 1 = k by omega] at this
        omega))
      have HKP := Lib.hid hkp
      have HJS := Lib.hid (fun j => HJ.out _ _ (wr.drewN j) none hJs ⟨rfl, rfl, rfl, Nat.le_refl _, fun _ _ _ => rfl⟩ (fun r e => by cases e))
      clear hkp hJs
      cases hb : hasF D k with
      | true =>
        have HON := Lib.hid (onesU_yes D k hk1 hb)
        rw [hb] at HC
        clear hb
        gi_wp2_with (refine ⟨trivial, ?_⟩; gi_at_call 109; refine (callsIn_wide.2 HC.out).mono ?_; rintro e w1 ⟨rfl, j, rfl⟩; obtain ⟨fn, tmps, assign, body, hy, hRr⟩ := HY.out j)
        refine hRr.mono ?_
        rintro e W3 (⟨rfl, hJ3, hk3⟩ | ⟨rfl, hJx3⟩)
        · rw [← HON.out] at hJ3
          gi_wp2
          go_roundw
          case rel => exact ⟨k + 1, by omega, by omega, by go_num, hJ3, (HKP.out.trans (KpB.drewN _ _)).trans hk3⟩
          case measure => simp [intOf]; omega
        · gi_wp2
          refine bodyPost_ret (results_none rfl _ _ _) rfl ?_
          exact ⟨⟨_, rfl⟩, .inr ⟨_, trivial, hJx3⟩⟩
      | false =>
        have HON := Lib.hid (onesU_no D k hb)
        rw [hb] at HC
        clear hb
        gi_wp2_with (refine ⟨trivial, ?_⟩; gi_at_call 109; refine (callsIn_wide.2 HC.out).mono ?_; rintro e w1 ⟨rfl, j, rfl⟩)
        refine ⟨(fun _ e => nomatch e), ?_⟩
        gi_wp2
        go_roundw
        case rel => exact ⟨k + 1, by omega, by omega, by go_num, by rw [HON.out]; exact HJS.out _, HKP.out.trans (KpB.drewN _ _)⟩
        case measure => simp [intOf]; omega
    · have hki : ¬ (k : Int) ≤ 8 * (N : Int) := by omega
      have hke : k = 8 * N + 1 := by omega
      have HJS := Lib.hid (show J (onesU D (8 * N + 1)) wr from by rw [← hke]; exact hJs)
      clear hJs hke
      gi_wp2
      go_end0
      exact ⟨⟨_, rfl⟩, .inl HJS.out⟩

set_option maxRecDepth 100000 in
set_option maxHeartbeats 1000000 in
theorem ones_in (n : Nat) (a : Option Addr) (len cap : Nat) (w : World) :
    CallsIn Fence.wide n Tryd.prog 103 #[.slice a len cap] w fun e w' => e = .returned (.func (.func 110) #[] #[.pointer (some ⟨w.heap.size, 0, none⟩)]) ∧ w' = w.alloc (.cells #[.slice a len cap] 27) := by
  refine callsIn_of_wp Tryd.func103 rfl trivial ?_ rfl
  simp only [Tryd.ntmps103, List.size_toArray, List.length_cons, List.length_nil, Nat.reduceAdd, Nat.reduceSub, Array.replicate_succ, Array.replicate_zero, List.push_toArray, List.append_toArray, List.nil_append, List.cons_append]
  gi_wp2
  go_ret
  exact ⟨rfl, rfl⟩
set_option maxRecDepth 100000 in
theorem ones_stops (n : Nat) (hn : 1 ≤ n) (Bs N c : Nat) (A : Option Addr) (D : List UInt8) (hN : D.length = N) (hN2 : N ≤ 16) (w0 w : World) (hB : w0.heap.size ≤ Bs) (hBs : Bs < w.heap.size) (hbl : Below w0.heap.size w0 w)
    (hc : w.cell? ⟨Bs, 0, none⟩ = some (.slice A N c)) (hR : Rd w0 w0.heap.size A D) :
    SeqStopsK Fence.wide n Tryd.prog 110 #[.pointer (some ⟨Bs, 0, none⟩)] (fun x : Nat => #[.int .i64 (x : Nat)]) (KpB w0.heap.size Bs) (fun ys => ys = onesU D (8 * N + 1)) (fun _ => True) (8 * N) w := fun lo J Jx W hW hJ _ hY h0 => by
  have hW0 : Below w0.heap.size w0 W := hbl.trans (hW.mono hbl.size)
  exact ones1_in n hn lo Bs w0.heap.size N c A D hN hN2 J Jx W hJ hY ((hW.cell (p := ⟨Bs, 0, none⟩) hBs).trans hc) hB (Nat.lt_of_lt_of_le hBs hW.size) (hR.below hW0 (Nat.le_refl _)) h0
end Go.Proofs.YtpfjecjfooefoaaDoor
