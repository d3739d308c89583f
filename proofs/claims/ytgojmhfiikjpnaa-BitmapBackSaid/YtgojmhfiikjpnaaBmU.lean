
/- Package bitmap: Write. -/
import Derived.Test.YtgojmhfiikjpnaaBmT
namespace Go.Proofs.Ytgojmhfiikjpnaa
open Go.RowKit

theorem bytN_or (p q : Nat → Bool) (x j : Nat) (h1 : 1 ≤ x) (hq : ∀ n, q n = (p n || decide (n = x))) (hj : j = (x - 1) / 8) : bytN q j = bytN p j ||| 2 ^ (7 - (x - 1) % 8) := by
  apply Nat.eq_of_testBit_eq
  intro i
  rw [Nat.testBit_or, Nat.testBit_two_pow]
  by_cases hi : i < 8
  · have hb := bytN_bit q j (7 - i) (by omega)
    have hb2 := bytN_bit p j (7 - i) (by omega)
    rw [show 7 - (7 - i) = i by omega] at hb hb2
    rw [hb, hb2, hq]
    congr 1
    exact decide_eq_decide.2 (by omega)
  · have p2 : 256 ≤ 2 ^ i := by
      have := Nat.pow_le_pow_right (show 1 ≤ 2 by decide) (show 8 ≤ i by omega)
      simpa using this
    rw [Nat.testBit_lt_two_pow (Nat.lt_of_lt_of_le (bytN_lt q j) p2), Nat.testBit_lt_two_pow (Nat.lt_of_lt_of_le (bytN_lt p j) p2), decide_eq_false (by omega)]
    rfl
theorem bytN_same (p q : Nat → Bool) (x j : Nat) (h1 : 1 ≤ x) (hq : ∀ n, q n = (p n || decide (n = x))) (hj : ¬ j = (x - 1) / 8) : bytN q j = bytN p j := by
  unfold bytN
  rw [hq, hq, hq, hq, hq, hq, hq, hq, decide_eq_false (show ¬ 8 * j + 1 = x by omega), decide_eq_false (show ¬ 8 * j + 2 = x by omega), decide_eq_false (show ¬ 8 * j + 3 = x by omega), decide_eq_false (show ¬ 8 * j + 4 = x by omega), decide_eq_false (show ¬ 8 * j + 5 = x by omega), decide_eq_false (show ¬ 8 * j + 6 = x by omega), decide_eq_false (show ¬ 8 * j + 7 = x by omega), decide_eq_false (show ¬ 8 * j + 8 = x by omega)]
  simp only [Bool.or_false]
/-- what the code sets: bit 1 first, where there are two rows -/
def aF (l : List Int) : List Int := if wideF l = true then 1 :: l else l
def kF (l : List Int) : Nat := if wideF l = true then 1 else 0
theorem setU_step {a : List Int} (k x : Nat) (hk : k < a.length) (hx : a[k] = (x : Int)) : ∀ n, setU a (k + 1) n = (setU a k n || decide (n = x)) := by
  intro n
  unfold setU
  rw [List.take_succ_eq_append_getElem hk, hx, Bool.eq_iff_iff, Bool.or_eq_true, decide_eq_true_iff, decide_eq_true_iff, decide_eq_true_iff, List.mem_append, List.mem_singleton]
  constructor
  · rintro (h1 | h1)
    · exact .inl h1
    · exact .inr (by omega)
  · rintro (h1 | h1)
    · exact .inl h1
    · exact .inr (by omega)
theorem or_row {a : List Int} (k x q : Nat) (hk : k < a.length) (hx : a[k] = (x : Int)) (h1 : 1 ≤ x) : orF (rowB a k) x (bytN (setU a k) ((x - 1) / 8)) q = rowB a (k + 1) q := by
  unfold orF
  by_cases e : q = (x - 1) / 8
  · rw [if_pos e]
    unfold rowB
    rw [e, bytN_or (setU a k) (setU a (k + 1)) x _ h1 (setU_step k x hk hx) rfl]
  · rw [if_neg e]
    unfold rowB
    rw [bytN_same (setU a k) (setU a (k + 1)) x _ h1 (setU_step k x hk hx) e]
theorem aF_get {l : List Int} (k : Nat) (hk : k < l.length) : ∃ h : kF l + k < (aF l).length, (aF l)[kF l + k] = l[k] := by
  unfold aF kF
  split
  · refine ⟨by simp; omega, ?_⟩
    simp [Nat.add_comm 1 k]
  · exact ⟨by omega, by simp⟩
theorem aF_all (l : List Int) (k : Nat) (hk : l.length ≤ k) (j : Nat) : bytN (setU (aF l) (kF l + k)) j = bytN (setF l) j := by
  refine bytN_congr (fun n hn => ?_) j
  unfold setU setF
  rw [List.take_of_length_le (by unfold aF kF; split <;> simp <;> omega), Bool.eq_iff_iff, Bool.or_eq_true, Bool.and_eq_true, decide_eq_true_iff, decide_eq_true_iff, decide_eq_true_iff]
  unfold aF
  split
  · rename_i hw
    rw [List.mem_cons]
    constructor
    · rintro (h | h)
      · exact .inr ⟨by omega, hw⟩
      · exact .inl h
    · rintro (h | ⟨h1, h⟩)
      · exact .inr h
      · exact .inl (by omega)
  · rename_i hw
    constructor
    · exact .inl
    · rintro (h | ⟨h1, h⟩)
      · exact h
      · exact absurd h hw
theorem size_wide {l : List Int} (h : RightP l) : (l.getLast?.any fun x => decide (64 < x)) = wideF l := by
  rcases List.eq_nil_or_concat l with rfl | ⟨l0, z, rfl⟩
  · rfl
  · rw [List.concat_eq_append] at *
    rw [wide_last h l0.length (by simp)]
    simp

set_option maxRecDepth 100000 in
set_option maxHeartbeats 4000000 in
theorem bWrite_any (A : Option Addr) (l : List Int) (c : Nat) (W : World) (hl : l.length ≤ 1000) (hz : I64s l) (hr : RdI W W.heap.size A l) :
    Calls Try.prog 10 #[.slice A l.length c] W fun e W' => Ans W' e (bmW l) (bmW l).length (.int .i64 (bmE l)) ∧ Below W.heap.size W W' := by
  have CR := Lib.hid (bRight_any A l c W (by omega) hz hr)
  by_cases hR : RightP l
  · have hw : bmW l = writeB l := by unfold bmW; rw [if_pos hR]
    have he : bmE l = 0 := by unfold bmE; rw [if_pos hR]
    rw [hw, he, writeB_length]
    rw [decide_eq_true hR] at CR
    have HBD := Lib.hid (fun (x : Int) hx => hR.mem (x := x) hx)
    have HALL := Lib.hid (fun k hk j => aF_all l k hk j)
    have HGET := Lib.hid (fun k hk => aF_get (l := l) k hk)
    have HWR := Lib.hid (show ∀ j (hj : j < (writeB l).length), (writeB l)[j] = bytF (setF l) j from fun j hj => by simp [writeB])
    have HWL := Lib.hid (writeB_length l)
    have HNO := Lib.hid (fun (h : wideF l = false) x hx => wide_no h (x := x) hx)
    have RA := Lib.hid (fun w (h : Below W.heap.size W w) => (hr.below h (Nat.le_refl _)).more h.size)
    have CS := Lib.hid (fun w (h : Below W.heap.size W w) => (show Calls Try.prog 21 #[.slice A l.length c] w fun e W' => e = .returned (.int .i64 (sizeB (wideF l) : Nat)) ∧ W' = w from by
      have h2 := bSize_any A l c w hl ((hr.below h (Nat.le_refl _)).more h.size)
      rw [size_wide hR] at h2
      exact h2))
    obtain ⟨i0, hi, hz0, hz1, hz2⟩ := info_parts info5
    clear hw he hr hR hz
    obtain ⟨n, hn⟩ : ∃ n, n = l.length := ⟨_, rfl⟩
    have HN := Lib.hid hn
    rw [← hn] at hl CR CS ⊢
    clear hn
    cases hwd : wideF l with
    | true =>
      have HK := Lib.hid (show kF l = 1 by unfold kF; rw [hwd]; rfl)
      have HNO2 := Lib.hid (show ∀ x, x ∈ l → 1 ≤ x ∧ x ≤ 128 from fun x hx => by have := HBD.out x hx; omega)
      have HA0 := Lib.hid (show ∃ r, aF l = 1 :: r from ⟨l, by unfold aF; rw [hwd]; rfl⟩)
      rw [hwd] at HWL CS
      rw [HK.out] at HALL HGET
      clear HNO HBD
      obtain ⟨a, ha⟩ : ∃ a, a = aF l := ⟨_, rfl⟩
      rw [← ha] at HALL HGET HA0
      clear ha hwd HK
      go_enter Try.func10, Try.ntmps10
      go_wp2_with fail
      refine CR.out.mono ?_
      rintro e w1 ⟨rfl, hb⟩
      have HB1 := Lib.hid hb
      clear hb CR
      go_wp2_with fail
      refine (CS.out _ HB1.out).mono ?_
      rintro e w2 ⟨rfl, rfl⟩
      clear CS
      rw [show ((sizeB true : Nat) : Int) = 16 from rfl]
      go_wp2_with (at_make; refine wpList_make_row w2 rfl _ _ 24 rfl 5 i0 (.int .u8 0) Try.underlying24 hi hz0 hz1 rfl .i64 .i64 16 rfl rfl (by rw [hz2]; omega) (by omega) ?_)
      have hrow := World.rowIs_made w2 (.int .u8 0) 16 5
      have hbm := (Below.refl w2.heap.size w2).alloc (Nat.le_refl _) (.cells (madeCells #[.int .u8 0] 16) 5)
      obtain ⟨V, hV⟩ : ∃ V, V = w2.alloc (.cells (madeCells #[.int .u8 0] 16) 5) := ⟨_, rfl⟩
      rw [← hV] at hrow hbm ⊢
      have HBV := Lib.hid (HB1.out.trans (hbm.mono HB1.out.size))
      obtain ⟨g, hg⟩ : ∃ g, g = w2.heap.size := ⟨_, rfl⟩
      rw [← hg] at hrow ⊢
      have HG := Lib.hid (show W.heap.size ≤ g by rw [hg]; exact HB1.out.size)
      have HROW := Lib.hid hrow
      clear hV hrow hbm hg
      have HR0 := Lib.hid (HROW.out.congr (g := rowB a 0) (fun j _ => by unfold rowB; rw [bytN_zero _ (fun n => by unfold setU; rw [List.take_zero]; rfl)]; rfl))
      clear HROW
      have CS1 := Lib.hid (show Calls Try.prog 22 #[.slice (some ⟨g, 0, none⟩) 16 16, .int .i64 1] V fun e W' => e = .returned (.tuple #[]) ∧ W'.rowIs g 5 16 (orF (rowB a 0) 1 (bytN (setU a 0) ((1 - 1) / 8))) ∧ Below g V W' from
        bSet_any g 16 16 (rowB a 0) 1 (bytN (setU a 0) ((1 - 1) / 8)) V (by omega) (by omega) (by omega) (by decide) HR0.out rfl (bytN_lt _ _))
      clear HR0
      go_wp2_with fail
      refine CS1.out.mono ?_
      rintro e w3 ⟨rfl, hrow3, hb3⟩
      have HROW3 := Lib.hid (hrow3.congr (g := rowB a 1) (fun q _ => by
        obtain ⟨r, hr⟩ := HA0.out
        exact or_row 0 1 q (by rw [hr]; simp) (by simp [hr]) (by omega)))
      have HB3 := Lib.hid hb3
      clear hrow3 hb3 CS1
      go_wp2
      go_loopw [20] (fun i wr => ∃ k : Nat, k ≤ n ∧ i = .int .i64 k ∧ wr.rowIs g 5 16 (rowB a (1 + k)) ∧ Below g V wr) (fun i _ => n - (intOf i).toNat)
      case atStart => exact ⟨0, Nat.zero_le _, rfl, HROW3.out, HB3.out⟩
      case round =>
        obtain ⟨k, hk, rfl, hrow, hbel⟩ := hrel
        have HRW := Lib.hid hrow
        have HB := Lib.hid hbel
        clear hrow hbel
        by_cases hlt : k < n
        · have hkl : k < l.length := by rw [← HN.out]; exact hlt
          have hbw : Below W.heap.size W wr := HBV.out.trans (HB.out.mono HG.out)
          obtain ⟨b1, o1, e1, hb1, hc1⟩ := (RA.out wr hbw).at_ hkl
          have hm1 := HNO2.out _ (List.getElem_mem hkl)
          obtain ⟨hka, hga⟩ := HGET.out k hkl
          obtain ⟨x, hx⟩ : ∃ x : Nat, l[k] = (x : Int) := ⟨(l[k]).toNat, by omega⟩
          rw [hx] at hc1 hm1 hga
          have hx1 : 1 ≤ x := by omega
          have CS2 := Lib.hid (bSet_any g 16 16 (rowB a (1 + k)) x (bytN (setU a (1 + k)) ((x - 1) / 8)) wr hx1 (by omega) (by omega) (by omega) HRW.out rfl (bytN_lt _ _))
          have HOR := Lib.hid (fun q => or_row (1 + k) x q hka hga hx1)
          have hki : (k : Int) < (n : Int) := by omega
          have hk0 : (0 : Int) ≤ (k : Int) := Int.natCast_nonneg _
          generalize bytN (setU a (1 + k)) ((x - 1) / 8) = y at *
          cases e1
          clear hm1 hx hx1 hkl hb1 hka hga hbw
          go_wp2_with fail
          refine CS2.out.mono ?_
          rintro e w4 ⟨rfl, hrow4, hb4⟩
          have HROW4 := Lib.hid (hrow4.congr (fun q _ => HOR.out q))
          have HB4 := Lib.hid (HB.out.trans hb4)
          clear hrow4 hb4 CS2 HOR
          go_wp2
          go_roundw
          case rel => exact ⟨k + 1, by omega, by go_num, HROW4.out, HB4.out⟩
          case measure => simp [intOf]; omega
        · have hki : ¬ (k : Int) < (n : Int) := by omega
          have HSL := Lib.hid (Sl.row HRW.out HWL.out (by decide) (fun j hj => by
            unfold rowB
            rw [HWR.out j hj, bytF_nat, HALL.out k (by rw [← HN.out]; omega) j]))
          clear HRW
          go_wp2
          go_ret2
          obtain ⟨A9, c9, e9, hc9, hm9, hr9⟩ := HSL.out
          have HL := HWL.out
          refine ⟨⟨some ⟨g, 0, none⟩, 16, rfl, Nat.le_refl _, by decide, ?_⟩, HBV.out.trans (HB.out.mono HG.out)⟩
          injection e9 with e91 e92 e93
          rw [e91]
          exact hr9
    | false =>
      have HK := Lib.hid (show kF l = 0 by unfold kF; rw [hwd]; rfl)
      have HNO2 := Lib.hid (show ∀ x, x ∈ l → 1 ≤ x ∧ x ≤ 64 from fun x hx => by have := HBD.out x hx; have := HNO.out hwd x hx; omega)
      have HA0 := Lib.hid (show True from trivial)
      rw [hwd] at HWL CS
      rw [HK.out] at HALL HGET
      clear HNO HBD
      obtain ⟨a, ha⟩ : ∃ a, a = aF l := ⟨_, rfl⟩
      rw [← ha] at HALL HGET
      clear ha hwd HK
      go_enter Try.func10, Try.ntmps10
      go_wp2_with fail
      refine CR.out.mono ?_
      rintro e w1 ⟨rfl, hb⟩
      have HB1 := Lib.hid hb
      clear hb CR
      go_wp2_with fail
      refine (CS.out _ HB1.out).mono ?_
      rintro e w2 ⟨rfl, rfl⟩
      clear CS
      rw [show ((sizeB false : Nat) : Int) = 8 from rfl]
      go_wp2_with (at_make; refine wpList_make_row w2 rfl _ _ 24 rfl 5 i0 (.int .u8 0) Try.underlying24 hi hz0 hz1 rfl .i64 .i64 8 rfl rfl (by rw [hz2]; omega) (by omega) ?_)
      have hrow := World.rowIs_made w2 (.int .u8 0) 8 5
      have hbm := (Below.refl w2.heap.size w2).alloc (Nat.le_refl _) (.cells (madeCells #[.int .u8 0] 8) 5)
      obtain ⟨V, hV⟩ : ∃ V, V = w2.alloc (.cells (madeCells #[.int .u8 0] 8) 5) := ⟨_, rfl⟩
      rw [← hV] at hrow hbm ⊢
      have HBV := Lib.hid (HB1.out.trans (hbm.mono HB1.out.size))
      obtain ⟨g, hg⟩ : ∃ g, g = w2.heap.size := ⟨_, rfl⟩
      rw [← hg] at hrow ⊢
      have HG := Lib.hid (show W.heap.size ≤ g by rw [hg]; exact HB1.out.size)
      have HROW := Lib.hid hrow
      clear hV hrow hbm hg
      go_wp2
      go_loopw [20] (fun i wr => ∃ k : Nat, k ≤ n ∧ i = .int .i64 k ∧ wr.rowIs g 5 8 (rowB a (0 + k)) ∧ Below g V wr) (fun i _ => n - (intOf i).toNat)
      case atStart => exact ⟨0, Nat.zero_le _, rfl, HROW.out.congr (fun j _ => by unfold rowB; rw [bytN_zero _ (fun n => by unfold setU; rw [List.take_zero]; rfl)]; rfl), Below.refl _ _⟩
      case round =>
        obtain ⟨k, hk, rfl, hrow, hbel⟩ := hrel
        have HRW := Lib.hid hrow
        have HB := Lib.hid hbel
        clear hrow hbel
        by_cases hlt : k < n
        · have hkl : k < l.length := by rw [← HN.out]; exact hlt
          have hbw : Below W.heap.size W wr := HBV.out.trans (HB.out.mono HG.out)
          obtain ⟨b1, o1, e1, hb1, hc1⟩ := (RA.out wr hbw).at_ hkl
          have hm1 := HNO2.out _ (List.getElem_mem hkl)
          obtain ⟨hka, hga⟩ := HGET.out k hkl
          obtain ⟨x, hx⟩ : ∃ x : Nat, l[k] = (x : Int) := ⟨(l[k]).toNat, by omega⟩
          rw [hx] at hc1 hm1 hga
          have hx1 : 1 ≤ x := by omega
          have CS2 := Lib.hid (bSet_any g 8 8 (rowB a (0 + k)) x (bytN (setU a (0 + k)) ((x - 1) / 8)) wr hx1 (by omega) (by omega) (by omega) HRW.out rfl (bytN_lt _ _))
          have HOR := Lib.hid (fun q => or_row (0 + k) x q hka hga hx1)
          have hki : (k : Int) < (n : Int) := by omega
          have hk0 : (0 : Int) ≤ (k : Int) := Int.natCast_nonneg _
          generalize bytN (setU a (0 + k)) ((x - 1) / 8) = y at *
          cases e1
          clear hm1 hx hx1 hkl hb1 hka hga hbw
          go_wp2_with fail
          refine CS2.out.mono ?_
          rintro e w4 ⟨rfl, hrow4, hb4⟩
          have HROW4 := Lib.hid (hrow4.congr (fun q _ => HOR.out q))
          have HB4 := Lib.hid (HB.out.trans hb4)
          clear hrow4 hb4 CS2 HOR
          go_wp2
          go_roundw
          case rel => exact ⟨k + 1, by omega, by go_num, HROW4.out, HB4.out⟩
          case measure => simp [intOf]; omega
        · have hki : ¬ (k : Int) < (n : Int) := by omega
          have HSL := Lib.hid (Sl.row HRW.out HWL.out (by decide) (fun j hj => by
            unfold rowB
            rw [HWR.out j hj, bytF_nat, HALL.out k (by rw [← HN.out]; omega) j]))
          clear HRW
          go_wp2
          go_ret2
          obtain ⟨A9, c9, e9, hc9, hm9, hr9⟩ := HSL.out
          have HL := HWL.out
          refine ⟨⟨some ⟨g, 0, none⟩, 8, rfl, Nat.le_refl _, by decide, ?_⟩, HBV.out.trans (HB.out.mono HG.out)⟩
          injection e9 with e91 e92 e93
          rw [e91]
          exact hr9
  · have hw : bmW l = [] := by unfold bmW; rw [if_neg hR]
    have he : bmE l = 1 := by unfold bmE; rw [if_neg hR]
    rw [hw, he]
    rw [decide_eq_false hR] at CR
    generalize l.length = n at *
    clear hw he hr hR hz
    go_enter Try.func10, Try.ntmps10
    go_wp2_with fail
    refine CR.out.mono ?_
    rintro e w1 ⟨rfl, hb⟩
    have HB := Lib.hid hb
    clear hb CR
    go_wp2
    go_ret2
    exact ⟨AnsG.none, HB.out⟩
end Go.Proofs.Ytgojmhfiikjpnaa
