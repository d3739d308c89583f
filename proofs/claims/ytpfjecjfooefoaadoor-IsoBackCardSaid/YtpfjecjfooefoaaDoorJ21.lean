
/- The document's answer (bitmap): Write. -/
import Derived.Test.YtpfjecjfooefoaaDoorJ20
import Derived.Test.YtpfjecjfooefoaaDoorJ01
import Derived.Lib.AppendZerosOnto
namespace Go.Proofs.YtpfjecjfooefoaaDoor
open Go.RowKit

def allF (l : List Int) : List Int := if wideF l = true then l ++ [1] else l
set_option maxRecDepth 100000 in
theorem allF_mem (l : List Int) (x : Int) : x ∈ allF l ↔ x ∈ l ∨ (wideF l = true ∧ x = 1) := by
  unfold allF
  split
  · rename_i h; simp [h]
  · rename_i h; simp [h]
set_option maxRecDepth 100000 in
theorem allF_bd {l : List Int} (h : RightP l) {x : Int} (hx : x ∈ allF l) : 1 ≤ x ∧ x ≤ ((8 * sizeB (wideF l) : Nat) : Int) := by
  have hs := sizeB_or (wideF l)
  rcases (allF_mem l x).1 hx with h1 | ⟨h1, rfl⟩
  · obtain ⟨h2, h3, h4⟩ := h.mem h1
    refine ⟨by omega, ?_⟩
    cases hw : wideF l with
    | true => show x ≤ ((8 * 16 : Nat) : Int); omega
    | false => have := wide_no hw h1; show x ≤ ((8 * 8 : Nat) : Int); omega
  · omega
set_option maxRecDepth 100000 in
theorem allF_apart {l : List Int} (h : RightP l) : (allF l).Pairwise (· ≠ ·) := by
  have h1 : l.Pairwise (· ≠ ·) := h.pairwise.imp (fun hab => by omega)
  unfold allF
  split
  · rw [List.pairwise_append]
    refine ⟨h1, by simp, fun a ha b hb => ?_⟩
    have : b = 1 := by simpa using hb
    have := (h.mem ha).1
    omega
  · exact h1
def setU (a : List Int) (k n : Nat) : Bool := decide ((n : Int) ∈ a.take k)
set_option maxRecDepth 100000 in
theorem setU_next {a : List Int} (h : a.Pairwise (· ≠ ·)) (k x : Nat) (hk : k < a.length) (hx : a[k] = (x : Int)) : setU a k x = false ∧ ∀ n, setU a (k + 1) n = (setU a k n || decide (n = x)) := by
  constructor
  · unfold setU
    refine decide_eq_false (fun hm => ?_)
    obtain ⟨j, hj, he⟩ := List.getElem_of_mem hm
    rw [List.length_take] at hj
    rw [List.getElem_take] at he
    rw [List.pairwise_iff_getElem] at h
    exact h j k (by omega) hk (by omega) (by rw [he, hx])
  · intro n
    unfold setU
    rw [List.take_succ_eq_append_getElem hk, hx, Bool.eq_iff_iff, Bool.or_eq_true, decide_eq_true_iff, decide_eq_true_iff, decide_eq_true_iff, List.mem_append, List.mem_singleton]
    constructor
    · rintro (h1 | h1)
      · exact .inl h1
      · exact .inr (by omega)
    · rintro (h1 | h1)
      · exact .inl h1
      · exact .inr (by omega)
set_option maxRecDepth 100000 in
theorem bytN_congr {p q : Nat → Bool} (h : ∀ n, 1 ≤ n → p n = q n) (j : Nat) : bytN p j = bytN q j := by
  unfold bytN
  rw [h _ (by omega), h _ (by omega), h _ (by omega), h _ (by omega), h _ (by omega), h _ (by omega), h _ (by omega), h _ (by omega)]
set_option maxRecDepth 100000 in
theorem setU_all (l : List Int) (k : Nat) (hk : (allF l).length ≤ k) (j : Nat) : bytN (setU (allF l) k) j = bytN (setF l) j := by
  refine bytN_congr (fun n hn => ?_) j
  unfold setU setF
  rw [List.take_of_length_le hk, Bool.eq_iff_iff, Bool.or_eq_true, Bool.and_eq_true, decide_eq_true_iff, decide_eq_true_iff, decide_eq_true_iff, allF_mem]
  constructor
  · rintro (h | ⟨h, h1⟩)
    · exact .inl h
    · exact .inr ⟨by omega, h⟩
  · rintro (h | ⟨h1, h⟩)
    · exact .inl h
    · exact .inr ⟨h, by omega⟩
def rowB (a : List Int) (k j : Nat) : Value := .int .u8 (bytN (setU a k) j : Nat)

set_option maxRecDepth 100000 in
set_option maxHeartbeats 4000000 in
theorem refWriteB_any (A : Option Addr) (l : List Int) (c : Nat) (W : World) (hl : l.length ≤ 10000) (hr : RdI W W.heap.size A l) :
    Calls Tryd.prog 43 #[.slice A l.length c] W fun e W' => Ans W' e (bmW l) (bmW l).length (.int .i64 (bmE l)) ∧ Below W.heap.size W W' := by
  have CR := Lib.hid (refRight_any A l c W (by omega) hr)
  by_cases hR : RightP l
  · have hw : bmW l = writeB l := by unfold bmW; rw [if_pos hR]
    have he : bmE l = 0 := by unfold bmE; rw [if_pos hR]
    rw [hw, he, writeB_length]
    rw [decide_eq_true hR] at CR
    have HAP := Lib.hid (allF_apart hR)
    have HBD := Lib.hid (fun (x : Int) hx => allF_bd hR (x := x) hx)
    have HALL := Lib.hid (fun k hk j => setU_all l k hk j)
    have HWR := Lib.hid (show ∀ j (hj : j < (writeB l).length), (writeB l)[j] = bytF (setF l) j from fun j hj => by simp [writeB])
    have HWL := Lib.hid (writeB_length l)
    have RA := Lib.hid (fun w (h : Below W.heap.size W w) => (hr.below h (Nat.le_refl _)).more h.size)
    have hlast := fun n hn => wide_last hR n hn
    have hcell := fun w (h : Below W.heap.size W w) n (hn : n < l.length) => ((hr.below h (Nat.le_refl _)).more h.size).at_ hn
    have HLAST := Lib.hid hlast
    have HCELL := Lib.hid hcell
    obtain ⟨i0, hi, hz0, hz1, hz2⟩ := info_parts info5
    clear hw he hr hlast hcell hR
    obtain ⟨n, hn⟩ : ∃ n, n = l.length := ⟨_, rfl⟩
    have HN := Lib.hid hn
    rw [← hn] at hl CR ⊢
    clear hn
    cases hwd : wideF l with
    | true =>
      have HALF := Lib.hid (show allF l = l ++ [1] by unfold allF; rw [hwd]; rfl)
      rw [hwd] at HBD HWL
      have HPOS := Lib.hid (show 0 < n from by have h := hwd; rw [HN.out]; cases l with | nil => exact absurd h (by decide) | cons x r => simp)
      have hlt0 := HPOS.out
      have hw64 := HLAST.out (n - 1) (by have := HN.out; omega)
      rw [hwd] at hw64
      have hlast2 : 64 < l[n - 1]'(by have := HN.out; omega) := of_decide_eq_true hw64.symm
      obtain ⟨z, hz⟩ : ∃ z, z = l[n - 1]'(by have := HN.out; omega) := ⟨_, rfl⟩
      rw [← hz] at hlast2
      have HZ := Lib.hid hz
      have i1 : (0 : Int) < (n : Int) := by omega
      have i2 : decide ((0 : Int) < (n : Int)) = true := decide_eq_true i1
      have i3 : decide (0 < n) = true := decide_eq_true hlt0
      have i4 : decide (64 < z) = true := decide_eq_true hlast2
      clear hw64 hz
      clear hwd
      go_enter Tryd.func43, Tryd.ntmps43
      go_wp2_with fail
      refine CR.out.mono ?_
      rintro e w1 ⟨rfl, hb⟩
      have HB1 := Lib.hid hb
      clear hb CR
      obtain ⟨ab, ao, ea, hab, hac⟩ := HCELL.out w1 HB1.out (n - 1) (by have := HN.out; omega)
      rw [← HZ.out] at hac
      cases ea
      have HAC := Lib.hid (fun w (h : Below w1.heap.size w1 w) => (h.cell (p := ⟨ab, ao + (n - 1), none⟩) hab).trans hac)
      clear hac
      go_wp2_with (first
        | (at_builtin; refine wpList_appI _ rfl (.tmp 15) (.tmp 16) rfl w1.heap.size _ [] l rfl (by exact OwI.made0 w1 (Nat.le_refl _)) (some ⟨ab, ao, none⟩) n c (w1.alloc (.cells #[] 3)).heap.size rfl HN.out (by exact RA.out _ (HB1.out.alloc HB1.out.size _)) (by rw [← HN.out]; show 0 + n ≤ _; omega) (by exact le_alloc (Nat.le_refl _) _) ?_; intro v2 w2 hown2 hgrow2; have hb2 := OwI.below (w0 := w1) (by exact OwI.made0 w1 (Nat.le_refl _)) (by exact (Below.refl w1.heap.size w1).alloc (Nat.le_refl _) _) hgrow2 (by exact le_alloc (Nat.le_refl _) _); have HB2 := Lib.hid (belG HB1.out hb2 HB1.out.size); rw [List.nil_append] at hown2; have HO2 := Lib.hid hown2; obtain ⟨A2, c2, e2, p1, p2, hrd2⟩ := hown2.form; rw [← HN.out] at e2 p1; subst e2; have HR2 := Lib.hid hrd2; have HO2S := Lib.hid (show w1.heap.size ≤ w2.heap.size from hb2.size); have HX2 := Lib.hid hb2; have k5 := HAC.out w2 hb2; clear hown2 hgrow2 hb2 hrd2)
        | (at_builtin; refine wpList_appI _ rfl (.tmp 30) (.tmp 31) rfl w1.heap.size _ l [1] rfl (by exact HO2.out.alloc _) (some ⟨w2.heap.size, 0, none⟩) 1 1 (w2.heap.size + 1) rfl rfl (by exact rdi_new1 w2 1) (by rw [← HN.out]; show n + 1 ≤ _; omega) (by exact le_alloc HO2S.out _) ?_; intro v3 w3 hown3 hgrow3; have hb3 := OwI.below (w0 := w1) (by exact HO2.out.alloc _) (by exact HX2.out.alloc HO2S.out _) hgrow3 (by exact le_alloc HO2S.out _); have HB3 := Lib.hid (belG HB1.out hb3 HB1.out.size); rw [← HALF.out] at hown3; obtain ⟨A3, c3, e3, q1, q2, hrd3⟩ := hown3.form; subst e3; have HR3 := Lib.hid hrd3; clear hown3 hgrow3 hb3 hrd3)
        | (at_make; refine wpList_make_row w3 rfl _ _ 27 rfl 5 i0 (.int .u8 0) Tryd.underlying27 hi hz0 hz1 rfl .i64 .i64 16 rfl rfl (by rw [hz2]; omega) (by omega) ?_))
      have hrow := World.rowIs_made w3 (.int .u8 0) 16 5
      have hbm := (Below.refl w3.heap.size w3).alloc (Nat.le_refl _) (.cells (madeCells #[.int .u8 0] 16) 5)
      obtain ⟨V, hV⟩ : ∃ V, V = w3.alloc (.cells (madeCells #[.int .u8 0] 16) 5) := ⟨_, rfl⟩
      rw [← hV] at hrow hbm
      have HV := Lib.hid hV
      have RV := Lib.hid (HR3.out.below hbm (Nat.le_refl _))
      have HBV := Lib.hid (HB3.out.trans (hbm.mono HB3.out.size))
      obtain ⟨g, hg⟩ : ∃ g, g = w3.heap.size := ⟨_, rfl⟩
      rw [← hg] at hrow RV
      have HG := Lib.hid (show W.heap.size ≤ g by rw [hg]; exact HB3.out.size)
      have hgv : g = w3.heap.size := hg
      have HROW := Lib.hid hrow
      clear hV hrow hbm hg
      rw [← HV.out, ← hgv]
      clear HV hgv
      obtain ⟨M, hM⟩ : ∃ M, M = (allF l).length := ⟨_, rfl⟩
      have HM := Lib.hid hM
      rw [← hM] at q1 ⊢
      clear hM
      have hMl : M ≤ 10001 := by have h1 := HM.out; rw [HALF.out, List.length_append, ← HN.out] at h1; simp at h1; omega
      go_loopw [8] (fun i wr => ∃ k : Nat, k ≤ M ∧ i = .int .i64 k ∧ wr.rowIs g 5 16 (rowB (allF l) k) ∧ Below g V wr) (fun i _ => M - (intOf i).toNat)
      case atStart => exact ⟨0, Nat.zero_le _, rfl, HROW.out.congr (fun j _ => by unfold rowB; rw [bytN_zero _ (fun n => by unfold setU; rw [List.take_zero]; rfl)]; rfl), Below.refl _ _⟩
      case round =>
        obtain ⟨k, hk, rfl, hrow, hbel⟩ := hrel
        have HRW := Lib.hid hrow
        have HB := Lib.hid hbel
        clear hrow hbel
        by_cases hlt : k < M
        · have hkl : k < (allF l).length := by rw [← HM.out]; exact hlt
          obtain ⟨b1, o1, e1, hb1, hc1⟩ := RV.out.at_ hkl
          have k1 := (HB.out.cell (p := ⟨b1, o1 + k, none⟩) hb1).trans hc1
          have hm1 : 1 ≤ (allF l)[k] ∧ (allF l)[k] ≤ ((8 * 16 : Nat) : Int) := HBD.out _ (List.getElem_mem hkl)
          obtain ⟨x, hx⟩ : ∃ x : Nat, (allF l)[k] = (x : Int) := ⟨((allF l)[k]).toNat, by omega⟩
          obtain ⟨s1, s2⟩ := setU_next HAP.out k x hkl hx
          rw [hx] at k1 hm1
          have hx1 : 1 ≤ x := by omega
          have hx2 : x ≤ 8 * 16 := by omega
          have CP := Lib.hid (fun w => refPlace_any (x : Int) (by omega) w)
          rw [(plI_nat x hx1 (by omega)).1, (plI_nat x hx1 (by omega)).2] at CP
          have HST := Lib.hid (fun j => bytN_more (setU (allF l) k) (setU (allF l) (k + 1)) x j hx1 s1 s2)
          have hjN : (x - 1) / 8 < 16 := by omega
          obtain ⟨j, hj⟩ : ∃ j, j = (x - 1) / 8 := ⟨_, rfl⟩
          obtain ⟨p, hp⟩ : ∃ p : Nat, p = 2 ^ (7 - (x - 1) % 8) := ⟨_, rfl⟩
          rw [← hj] at hjN CP HST
          rw [← hp] at CP HST
          have hc2 := HRW.out.cell (i := j) hjN
          have hf2 := HRW.out.frozen j
          have hsum : bytN (setU (allF l) k) j + p < 256 := by
            have h := HST.out j
            rw [if_pos rfl] at h
            rw [← h]
            exact bytN_lt _ _
          unfold rowB at hc2
          obtain ⟨y, hy⟩ : ∃ y, y = bytN (setU (allF l) k) j := ⟨_, rfl⟩
          rw [← hy] at hc2 hsum
          have HY := Lib.hid hy
          have hyp : (y : Int) + (p : Int) ≤ 255 := by omega
          have hji : (j : Int) < 16 := by omega
          have hki : (k : Int) < (M : Int) := by omega
          have hk0 : (0 : Int) ≤ (k : Int) := Int.natCast_nonneg _
          have hj0 : (0 : Int) ≤ (j : Int) := Int.natCast_nonneg _
          cases e1
          clear hc1 hm1 hx s1 s2 hx1 hx2 hj hp hy hkl hb1
          go_wp2_with fail
          refine (CP.out _).mono ?_
          rintro e w' ⟨rfl, rfl⟩
          clear CP
          go_wp2
          go_roundw
          case rel => exact ⟨k + 1, by omega, by go_num, (HRW.out.set j (.int .u8 ((y : Int) + (p : Int)))).congr (fun q hq => by
            unfold rowB
            rw [HST.out q]
            by_cases e : q = j
            · rw [if_pos e, if_pos e, e, ← HY.out]
              congr 1
            · rw [if_neg e, if_neg e]), HB.out.setCell (Nat.le_refl _) _⟩
          case measure => simp [intOf]; omega
        · have hki : ¬ (k : Int) < (M : Int) := by omega
          have HSL := Lib.hid (Sl.row HRW.out HWL.out (by decide) (fun j hj => by
            unfold rowB
            rw [HWR.out j hj, bytF_nat, HALL.out k (by rw [← HM.out]; omega) j]))
          clear HRW
          go_wp2
          go_ret2
          obtain ⟨A9, c9, e9, hc9, hm9, hr9⟩ := HSL.out
          have HL := HWL.out
          refine ⟨⟨some ⟨g, 0, none⟩, 16, rfl, Nat.le_refl _, by decide, ?_⟩, HBV.out.trans (HB.out.mono HG.out)⟩
          injection e9 with e91 e92 e93
          rw [e91]
          exact hr9
    | false =>
      have HALF := Lib.hid (show allF l = l by unfold allF; rw [hwd]; rfl)
      rw [hwd] at HBD HWL
      have HPOS := Lib.hid (show True from trivial)
      have hw64 := fun (h : 0 < n) => HLAST.out (n - 1) (by have := HN.out; omega)
      by_cases hlt0 : 0 < n
      · have hw65 := hw64 hlt0
        rw [hwd] at hw65
        have hlast2 : ¬ 64 < l[n - 1]'(by have := HN.out; omega) := of_decide_eq_false hw65.symm
        obtain ⟨z, hz⟩ : ∃ z, z = l[n - 1]'(by have := HN.out; omega) := ⟨_, rfl⟩
        rw [← hz] at hlast2
        have HZ := Lib.hid hz
        have i1 : (0 : Int) < (n : Int) := by omega
        have i2 : decide ((0 : Int) < (n : Int)) = true := decide_eq_true i1
        have i3 : decide (0 < n) = true := decide_eq_true hlt0
        have i4 : decide (64 < z) = false := decide_eq_false hlast2
        clear hw64 hw65 hz
        clear hwd
        go_enter Tryd.func43, Tryd.ntmps43
        go_wp2_with fail
        refine CR.out.mono ?_
        rintro e w1 ⟨rfl, hb⟩
        have HB1 := Lib.hid hb
        clear hb CR
        obtain ⟨ab, ao, ea, hab, hac⟩ := HCELL.out w1 HB1.out (n - 1) (by have := HN.out; omega)
        rw [← HZ.out] at hac
        cases ea
        have HAC := Lib.hid (fun w (h : Below w1.heap.size w1 w) => (h.cell (p := ⟨ab, ao + (n - 1), none⟩) hab).trans hac)
        clear hac
        go_wp2_with (first
          | (at_builtin; refine wpList_appI _ rfl (.tmp 15) (.tmp 16) rfl w1.heap.size _ [] l rfl (by exact OwI.made0 w1 (Nat.le_refl _)) (some ⟨ab, ao, none⟩) n c (w1.alloc (.cells #[] 3)).heap.size rfl HN.out (by exact RA.out _ (HB1.out.alloc HB1.out.size _)) (by rw [← HN.out]; show 0 + n ≤ _; omega) (by exact le_alloc (Nat.le_refl _) _) ?_; intro v2 w2 hown2 hgrow2; have hb2 := OwI.below (w0 := w1) (by exact OwI.made0 w1 (Nat.le_refl _)) (by exact (Below.refl w1.heap.size w1).alloc (Nat.le_refl _) _) hgrow2 (by exact le_alloc (Nat.le_refl _) _); have HB2 := Lib.hid (belG HB1.out hb2 HB1.out.size); rw [List.nil_append] at hown2; have HO2 := Lib.hid hown2; obtain ⟨A2, c2, e2, p1, p2, hrd2⟩ := hown2.form; rw [← HN.out] at e2 p1; subst e2; have HR2 := Lib.hid hrd2; have k5 := HAC.out w2 hb2; rw [← HALF.out] at HR2; clear hown2 hgrow2 hb2 hrd2)
          | (at_make; refine wpList_make_row w2 rfl _ _ 27 rfl 5 i0 (.int .u8 0) Tryd.underlying27 hi hz0 hz1 rfl .i64 .i64 8 rfl rfl (by rw [hz2]; omega) (by omega) ?_))
        have hrow := World.rowIs_made w2 (.int .u8 0) 8 5
        have hbm := (Below.refl w2.heap.size w2).alloc (Nat.le_refl _) (.cells (madeCells #[.int .u8 0] 8) 5)
        obtain ⟨V, hV⟩ : ∃ V, V = w2.alloc (.cells (madeCells #[.int .u8 0] 8) 5) := ⟨_, rfl⟩
        rw [← hV] at hrow hbm
        have HV := Lib.hid hV
        have RV := Lib.hid (HR2.out.below hbm (Nat.le_refl _))
        have HBV := Lib.hid (HB2.out.trans (hbm.mono HB2.out.size))
        obtain ⟨g, hg⟩ : ∃ g, g = w2.heap.size := ⟨_, rfl⟩
        rw [← hg] at hrow RV
        have HG := Lib.hid (show W.heap.size ≤ g by rw [hg]; exact HB2.out.size)
        have hgv : g = w2.heap.size := hg
        have HROW := Lib.hid hrow
        clear hV hrow hbm hg
        rw [← HV.out, ← hgv]
        clear HV hgv
        obtain ⟨M, hM⟩ : ∃ M, M = (allF l).length := ⟨_, rfl⟩
        have HM := Lib.hid hM
        have hMn : M = n := by rw [hM, HALF.out, HN.out]
        rw [← hMn] at p1 ⊢
        rw [← hMn] at hl
        clear hMn
        clear hM
        have hMl : M ≤ 10001 := by omega
        go_loopw [8] (fun i wr => ∃ k : Nat, k ≤ M ∧ i = .int .i64 k ∧ wr.rowIs g 5 8 (rowB (allF l) k) ∧ Below g V wr) (fun i _ => M - (intOf i).toNat)
        case atStart => exact ⟨0, Nat.zero_le _, rfl, HROW.out.congr (fun j _ => by unfold rowB; rw [bytN_zero _ (fun n => by unfold setU; rw [List.take_zero]; rfl)]; rfl), Below.refl _ _⟩
        case round =>
          obtain ⟨k, hk, rfl, hrow, hbel⟩ := hrel
          have HRW := Lib.hid hrow
          have HB := Lib.hid hbel
          clear hrow hbel
          by_cases hlt : k < M
          · have hkl : k < (allF l).length := by rw [← HM.out]; exact hlt
            obtain ⟨b1, o1, e1, hb1, hc1⟩ := RV.out.at_ hkl
            have k1 := (HB.out.cell (p := ⟨b1, o1 + k, none⟩) hb1).trans hc1
            have hm1 : 1 ≤ (allF l)[k] ∧ (allF l)[k] ≤ ((8 * 8 : Nat) : Int) := HBD.out _ (List.getElem_mem hkl)
            obtain ⟨x, hx⟩ : ∃ x : Nat, (allF l)[k] = (x : Int) := ⟨((allF l)[k]).toNat, by omega⟩
            obtain ⟨s1, s2⟩ := setU_next HAP.out k x hkl hx
            rw [hx] at k1 hm1
            have hx1 : 1 ≤ x := by omega
            have hx2 : x ≤ 8 * 8 := by omega
            have CP := Lib.hid (fun w => refPlace_any (x : Int) (by omega) w)
            rw [(plI_nat x hx1 (by omega)).1, (plI_nat x hx1 (by omega)).2] at CP
            have HST := Lib.hid (fun j => bytN_more (setU (allF l) k) (setU (allF l) (k + 1)) x j hx1 s1 s2)
            have hjN : (x - 1) / 8 < 8 := by omega
            obtain ⟨j, hj⟩ : ∃ j, j = (x - 1) / 8 := ⟨_, rfl⟩
            obtain ⟨p, hp⟩ : ∃ p : Nat, p = 2 ^ (7 - (x - 1) % 8) := ⟨_, rfl⟩
            rw [← hj] at hjN CP HST
            rw [← hp] at CP HST
            have hc2 := HRW.out.cell (i := j) hjN
            have hf2 := HRW.out.frozen j
            have hsum : bytN (setU (allF l) k) j + p < 256 := by
              have h := HST.out j
              rw [if_pos rfl] at h
              rw [← h]
              exact bytN_lt _ _
            unfold rowB at hc2
            obtain ⟨y, hy⟩ : ∃ y, y = bytN (setU (allF l) k) j := ⟨_, rfl⟩
            rw [← hy] at hc2 hsum
            have HY := Lib.hid hy
            have hyp : (y : Int) + (p : Int) ≤ 255 := by omega
            have hji : (j : Int) < 8 := by omega
            have hki : (k : Int) < (M : Int) := by omega
            have hk0 : (0 : Int) ≤ (k : Int) := Int.natCast_nonneg _
            have hj0 : (0 : Int) ≤ (j : Int) := Int.natCast_nonneg _
            cases e1
            clear hc1 hm1 hx s1 s2 hx1 hx2 hj hp hy hkl hb1
            go_wp2_with fail
            refine (CP.out _).mono ?_
            rintro e w' ⟨rfl, rfl⟩
            clear CP
            go_wp2
            go_roundw
            case rel => exact ⟨k + 1, by omega, by go_num, (HRW.out.set j (.int .u8 ((y : Int) + (p : Int)))).congr (fun q hq => by
              unfold rowB
              rw [HST.out q]
              by_cases e : q = j
              · rw [if_pos e, if_pos e, e, ← HY.out]
                congr 1
              · rw [if_neg e, if_neg e]), HB.out.setCell (Nat.le_refl _) _⟩
            case measure => simp [intOf]; omega
          · have hki : ¬ (k : Int) < (M : Int) := by omega
            have HSL := Lib.hid (Sl.row HRW.out HWL.out (by decide) (fun j hj => by
              unfold rowB
              rw [HWR.out j hj, bytF_nat, HALL.out k (by rw [← HM.out]; omega) j]))
            clear HRW
            go_wp2
            go_ret2
            obtain ⟨A9, c9, e9, hc9, hm9, hr9⟩ := HSL.out
            have HL := HWL.out
            refine ⟨⟨some ⟨g, 0, none⟩, 8, rfl, Nat.le_refl _, by decide, ?_⟩, HBV.out.trans (HB.out.mono HG.out)⟩
            injection e9 with e91 e92 e93
            rw [e91]
            exact hr9
      · have i1 : ¬ (0 : Int) < (n : Int) := by omega
        have i2 : decide ((0 : Int) < (n : Int)) = false := decide_eq_false i1
        have i3 : decide (0 < n) = false := decide_eq_false hlt0
        clear hw64
        clear hwd
        go_enter Tryd.func43, Tryd.ntmps43
        go_wp2_with fail
        refine CR.out.mono ?_
        rintro e w1 ⟨rfl, hb⟩
        have HB1 := Lib.hid hb
        clear hb CR

        go_wp2_with (first
          | (at_builtin; refine wpList_appI _ rfl (.tmp 15) (.tmp 16) rfl w1.heap.size _ [] l rfl (by exact OwI.made0 w1 (Nat.le_refl _)) A n c (w1.alloc (.cells #[] 3)).heap.size rfl HN.out (by exact RA.out _ (HB1.out.alloc HB1.out.size _)) (by rw [← HN.out]; show 0 + n ≤ _; omega) (by exact le_alloc (Nat.le_refl _) _) ?_; intro v2 w2 hown2 hgrow2; have hb2 := OwI.below (w0 := w1) (by exact OwI.made0 w1 (Nat.le_refl _)) (by exact (Below.refl w1.heap.size w1).alloc (Nat.le_refl _) _) hgrow2 (by exact le_alloc (Nat.le_refl _) _); have HB2 := Lib.hid (belG HB1.out hb2 HB1.out.size); rw [List.nil_append] at hown2; have HO2 := Lib.hid hown2; obtain ⟨A2, c2, e2, p1, p2, hrd2⟩ := hown2.form; rw [← HN.out] at e2 p1; subst e2; have HR2 := Lib.hid hrd2; rw [← HALF.out] at HR2; clear hown2 hgrow2 hb2 hrd2)
          | (at_make; refine wpList_make_row w2 rfl _ _ 27 rfl 5 i0 (.int .u8 0) Tryd.underlying27 hi hz0 hz1 rfl .i64 .i64 8 rfl rfl (by rw [hz2]; omega) (by omega) ?_))
        have hrow := World.rowIs_made w2 (.int .u8 0) 8 5
        have hbm := (Below.refl w2.heap.size w2).alloc (Nat.le_refl _) (.cells (madeCells #[.int .u8 0] 8) 5)
        obtain ⟨V, hV⟩ : ∃ V, V = w2.alloc (.cells (madeCells #[.int .u8 0] 8) 5) := ⟨_, rfl⟩
        rw [← hV] at hrow hbm
        have HV := Lib.hid hV
        have RV := Lib.hid (HR2.out.below hbm (Nat.le_refl _))
        have HBV := Lib.hid (HB2.out.trans (hbm.mono HB2.out.size))
        obtain ⟨g, hg⟩ : ∃ g, g = w2.heap.size := ⟨_, rfl⟩
        rw [← hg] at hrow RV
        have HG := Lib.hid (show W.heap.size ≤ g by rw [hg]; exact HB2.out.size)
        have hgv : g = w2.heap.size := hg
        have HROW := Lib.hid hrow
        clear hV hrow hbm hg
        rw [← HV.out, ← hgv]
        clear HV hgv
        obtain ⟨M, hM⟩ : ∃ M, M = (allF l).length := ⟨_, rfl⟩
        have HM := Lib.hid hM
        have hMn : M = n := by rw [hM, HALF.out, HN.out]
        rw [← hMn] at p1 ⊢
        rw [← hMn] at hl
        clear hMn
        clear hM
        have hMl : M ≤ 10001 := by omega
        go_loopw [8] (fun i wr => ∃ k : Nat, k ≤ M ∧ i = .int .i64 k ∧ wr.rowIs g 5 8 (rowB (allF l) k) ∧ Below g V wr) (fun i _ => M - (intOf i).toNat)
        case atStart => exact ⟨0, Nat.zero_le _, rfl, HROW.out.congr (fun j _ => by unfold rowB; rw [bytN_zero _ (fun n => by unfold setU; rw [List.take_zero]; rfl)]; rfl), Below.refl _ _⟩
        case round =>
          obtain ⟨k, hk, rfl, hrow, hbel⟩ := hrel
          have HRW := Lib.hid hrow
          have HB := Lib.hid hbel
          clear hrow hbel
          by_cases hlt : k < M
          · have hkl : k < (allF l).length := by rw [← HM.out]; exact hlt
            obtain ⟨b1, o1, e1, hb1, hc1⟩ := RV.out.at_ hkl
            have k1 := (HB.out.cell (p := ⟨b1, o1 + k, none⟩) hb1).trans hc1
            have hm1 : 1 ≤ (allF l)[k] ∧ (allF l)[k] ≤ ((8 * 8 : Nat) : Int) := HBD.out _ (List.getElem_mem hkl)
            obtain ⟨x, hx⟩ : ∃ x : Nat, (allF l)[k] = (x : Int) := ⟨((allF l)[k]).toNat, by omega⟩
            obtain ⟨s1, s2⟩ := setU_next HAP.out k x hkl hx
            rw [hx] at k1 hm1
            have hx1 : 1 ≤ x := by omega
            have hx2 : x ≤ 8 * 8 := by omega
            have CP := Lib.hid (fun w => refPlace_any (x : Int) (by omega) w)
            rw [(plI_nat x hx1 (by omega)).1, (plI_nat x hx1 (by omega)).2] at CP
            have HST := Lib.hid (fun j => bytN_more (setU (allF l) k) (setU (allF l) (k + 1)) x j hx1 s1 s2)
            have hjN : (x - 1) / 8 < 8 := by omega
            obtain ⟨j, hj⟩ : ∃ j, j = (x - 1) / 8 := ⟨_, rfl⟩
            obtain ⟨p, hp⟩ : ∃ p : Nat, p = 2 ^ (7 - (x - 1) % 8) := ⟨_, rfl⟩
            rw [← hj] at hjN CP HST
            rw [← hp] at CP HST
            have hc2 := HRW.out.cell (i := j) hjN
            have hf2 := HRW.out.frozen j
            have hsum : bytN (setU (allF l) k) j + p < 256 := by
              have h := HST.out j
              rw [if_pos rfl] at h
              rw [← h]
              exact bytN_lt _ _
            unfold rowB at hc2
            obtain ⟨y, hy⟩ : ∃ y, y = bytN (setU (allF l) k) j := ⟨_, rfl⟩
            rw [← hy] at hc2 hsum
            have HY := Lib.hid hy
            have hyp : (y : Int) + (p : Int) ≤ 255 := by omega
            have hji : (j : Int) < 8 := by omega
            have hki : (k : Int) < (M : Int) := by omega
            have hk0 : (0 : Int) ≤ (k : Int) := Int.natCast_nonneg _
            have hj0 : (0 : Int) ≤ (j : Int) := Int.natCast_nonneg _
            cases e1
            clear hc1 hm1 hx s1 s2 hx1 hx2 hj hp hy hkl hb1
            go_wp2_with fail
            refine (CP.out _).mono ?_
            rintro e w' ⟨rfl, rfl⟩
            clear CP
            go_wp2
            go_roundw
            case rel => exact ⟨k + 1, by omega, by go_num, (HRW.out.set j (.int .u8 ((y : Int) + (p : Int)))).congr (fun q hq => by
              unfold rowB
              rw [HST.out q]
              by_cases e : q = j
              · rw [if_pos e, if_pos e, e, ← HY.out]
                congr 1
              · rw [if_neg e, if_neg e]), HB.out.setCell (Nat.le_refl _) _⟩
            case measure => simp [intOf]; omega
          · have hki : ¬ (k : Int) < (M : Int) := by omega
            have HSL := Lib.hid (Sl.row HRW.out HWL.out (by decide) (fun j hj => by
              unfold rowB
              rw [HWR.out j hj, bytF_nat, HALL.out k (by rw [← HM.out]; omega) j]))
            clear HRW
            go_wp2
            go_ret2
            obtain ⟨A9, c9, e9, hc9, hm9, hr9⟩ := HSL.out
            have HL := HWL.out
            refine ⟨⟨some ⟨g, 0, none⟩, 8, rfl, Nat.le_refl _, by decide, ?_⟩, HBV.out.trans (HB.out.mono HG.out)⟩
            injection e9 with e91 e92 e93
            rw [e91]
            exact hr9
  · have hw : bmW l = [] := by unfold bmW; rw [if_neg hR]
    have he : bmE l = 1 := by unfold bmE; rw [if_neg hR]
    rw [hw, he]
    rw [decide_eq_false hR] at CR
    generalize l.length = n at *
    clear hw he hr hR
    go_enter Tryd.func43, Tryd.ntmps43
    go_wp2_with fail
    refine CR.out.mono ?_
    rintro e w1 ⟨rfl, hb⟩
    have HB := Lib.hid hb
    clear hb CR
    go_wp2
    go_ret2
    exact ⟨AnsG.none, HB.out⟩
end Go.Proofs.YtpfjecjfooefoaaDoor
/- append(x, make([]byte, n)...) onto a slice of the call's own, whether there is room or not; stores into it. -/

namespace Go.Proofs.YtpfjecjfooefoaaDoor
open Go.RowKit

set_option maxRecDepth 100000 in
theorem zeroCells_cs (Z : Nat) : (Builtin.zeroCells (Value.int .u8 0).cells Z).toList = cs (List.replicate Z 0) := by
  apply List.ext_getElem?
  intro j
  by_cases hj : j < Z
  · simp [Builtin.zeroCells, cs, Value.cells, hj, Nat.mod_one]
  · simp [Builtin.zeroCells, cs, Value.cells, hj, Nat.mod_one]
set_option maxRecDepth 100000 in
theorem run_appZG (ty : TypeId) (w : World) (base g n cap : Nat) (l : List UInt8) (Z : Nat) (h : Ow w base (.slice (some ⟨g, 0, none⟩) n cap) l) (h0 : 0 < Z) (hZ : Z ≤ 100000) (hl : l.length ≤ 100000) (hbase : base ≤ w.heap.size) :
    ∃ v' w', (Builtin.append_ #[27, 3] ty #[.slice (some ⟨g, 0, none⟩) n cap, .int .i64 Z]).run Tryd.prog w = .ok v' w' ∧ Ow w' base v' (l ++ List.replicate Z 0) ∧ w.grownBy w' (some g) := by
  obtain ⟨i0, hi, hz0, hz1, hz2⟩ := info_parts info5
  obtain ⟨hcl, hh⟩ := h
  rcases hh with ⟨e, _⟩ | ⟨g', cap', cur, e, hbg, hg, hnc, hcm, hcs, htake⟩
  · cases e
  cases e
  have hlen : (l ++ List.replicate Z (0 : UInt8)).length = l.length + Z := by simp
  have hcsl : (cs (l ++ List.replicate Z 0)).length = l.length + Z := by rw [cs_length, hlen]
  by_cases hroom : l.length + Z ≤ cap
  · have hst := run_storeCells_at Tryd.prog g (l.length * i0.size) 5 (cs (List.replicate Z 0)) 0 cur w hg (by rw [cs_length, List.length_replicate, hcs, hz1]; omega) (cs_one _)
    simp only [Nat.add_zero] at hst
    have hw : IntKind.i64.wrap (Z : Int) = Z := by rw [IntKind.wrap_i64]; omega
    have hneg : ¬ ((Z : Int) < 0) := by omega
    have hns : ¬ (Z * i0.size = 0) := by rw [hz1]; omega
    have h48 : ¬ (281474976710656 < (Z : Int) * (i0.bytes : Int)) := by rw [hz2]; omega
    have hzz := zeroCells_cs Z
    have hrun : (Builtin.append_ #[27, 3] ty #[.slice (some ⟨g, 0, none⟩) l.length cap, .int .i64 Z]).run Tryd.prog w = .ok (.slice (some ⟨g, 0, none⟩) (l.length + Z) cap) (w.setRow g (cur.toList.take (l.length * i0.size) ++ cs (List.replicate Z 0) ++ cur.toList.drop (l.length * i0.size + (cs (List.replicate Z 0)).length)).toArray) := by
      simp [Builtin.append_, run_underlying Tryd.underlying27, run_underlying Tryd.underlying3, sizeOf, typeInfo, zeroValue, hi, hz0, asInt, asIntOf, hw, hneg, hns, h48, hroom, Addr.add_lit, hzz, hst]
    refine ⟨_, _, hrun, ⟨by simp [cs], .inr ⟨g, cap, _, by rw [hlen], hbg, setRow_heap w g cur _ _ _ hg, by rw [hlen]; exact hroom, hcm, ?_, ?_⟩⟩, ⟨rfl, rfl, rfl, by simp, fun k _ hk => setRow_other w g k _ (fun e => hk (by simp [e]))⟩⟩
    · simp only [List.size_toArray, List.length_append, List.length_take, List.length_drop, Array.length_toList, cs_length, List.length_replicate]
      rw [hz1]
      omega
    · rw [hz1, htake, ← cs_append, hlen, Nat.mul_one, ← hcsl]
      exact List.take_left
  · have holds : ∀ j u, (cs l)[j]? = some u → w.drew.cell? ((⟨g, 0, none⟩ : Addr).add j) = some u := World.ownsRow.cells (w := w) (v := .slice (some ⟨g, 0, none⟩) l.length cap) (n := l.length) (size := 1) (base := base) (e := 5) ⟨hcl, .inr ⟨g, cap, cur, rfl, hbg, hg, hnc, hcm, hcs, htake⟩⟩ (g := g) rfl
    have hf := run_firstCells_some (P := Tryd.prog) w.drew i0.size l.length ⟨g, 0, none⟩ l.length cap (cs l) (by rw [hz1, cs_length, Nat.mul_one]) holds
    have hrun := Lib.run_append_grow_zeros (P := Tryd.prog) w 27 3 ty 5 i0 (.int .u8 0) .i64 .i64 Tryd.underlying27 Tryd.underlying3 hi hz0 (some ⟨g, 0, none⟩) l.length cap (cs l) hf Z h0 (by rw [hz1]; omega) (by omega) (by omega) (by rw [hz2]; omega) (by rw [hz2]; exact growslice_fits (by omega) (by omega))
    have hge := grownCap_ge w (l.length + Z) cap 5
    have hcm2 : grownCap w (l.length + Z) cap 5 ≤ maxLen := grownCap_le_maxLen w (l.length + Z) cap 5 (by unfold maxLen; omega)
    have hzc : (Value.int .u8 0).cells.size = 1 := rfl
    refine ⟨_, _, hrun, ⟨by simp [cs], .inr ⟨w.heap.size, _, _, by rw [hlen], hbase, heap_alloc_new w.drew _, by rw [hlen]; exact hge, hcm2, ?_, ?_⟩⟩, ⟨rfl, rfl, rfl, by simp, fun k hk _ => heap_alloc_old w.drew _ hk⟩⟩
    · simp only [Array.size_append, List.size_toArray, size_zeroCells, hzc, cs_length]
      omega
    · simp only [Array.toList_append, zeroCells_cs]
      rw [← cs_append, hlen, Nat.mul_one, ← hcsl]
      exact List.take_left
set_option maxRecDepth 100000 in
theorem wpList_appZG {ops : Array Oper} {rest : List Oper} {o : Oper} {a : Act} {Q : Exit → Act → World → Prop} (w : World) (hw : Region.wanted o (yielded ops a.tmps) = true) (s y : Operand)
    (ho : o.op = .call { callee := .builtin .append, args := #[s, y], argTypes := #[27, 3] })
    (base g n cap : Nat) (l : List UInt8) (Z : Nat) (hs : a.eval s = .slice (some ⟨g, 0, none⟩) n cap) (hy : a.eval y = .int .i64 Z) (h : Ow w base (.slice (some ⟨g, 0, none⟩) n cap) l) (h0 : 0 < Z) (hZ : Z ≤ 100000) (hl : l.length ≤ 100000) (hbase : base ≤ w.heap.size)
    (hK : ∀ v' w', Ow w' base v' (l ++ List.replicate Z 0) → w.grownBy w' (some g) → wpList Tryd.prog ops Q rest (a.put o.dst v') w') : wpList Tryd.prog ops Q (o :: rest) a w :=
  BigFrame.wpList_want hw fun K hK' => by
    obtain ⟨v', w', hr, h2, h3⟩ := run_appZG o.type w base g n cap l Z h h0 hZ hl hbase
    exact Lib.wp_append_run w s y 27 3 ho _ _ hs hy v' w' hr (hK' _ _ (hK v' w' h2 h3))
set_option maxRecDepth 100000 in
theorem Ow.setG {w : World} {base g n cap : Nat} {l : List UInt8} (h : Ow w base (.slice (some ⟨g, 0, none⟩) n cap) l) (i : Nat) (z : UInt8) :
    Ow (w.setCell ⟨g, i, none⟩ (.int .u8 (z.toNat : Int))) base (.slice (some ⟨g, 0, none⟩) n cap) (l.set i z) := by
  refine ⟨by simp [cs], ?_⟩
  rcases h.2 with ⟨e, _⟩ | ⟨g', cap', cur, e, hb, hg, hn, hcap, hsz, htake⟩
  · cases e
  · cases e
    refine .inr ⟨g, cap, cur.setIfInBounds i (.int .u8 (z.toNat : Int)), by rw [List.length_set], hb, ?_, by rw [List.length_set]; exact hn, hcap, by rw [Array.size_setIfInBounds]; exact hsz, ?_⟩
    · exact heap_setCell_same w g i _ _ _ hg
    · rw [List.length_set, Array.toList_setIfInBounds, List.take_set, htake]
      simp [cs, List.map_set]
set_option maxRecDepth 100000 in
theorem Ow.thawG {w : World} {base g n cap : Nat} {l : List UInt8} (h : Ow w base (.slice (some ⟨g, 0, none⟩) n cap) l) (i : Nat) : w.frozen? ⟨g, i, none⟩ = false := by
  rcases h.2 with ⟨e, _⟩ | ⟨g', cap', cur, e, hb, hg, _⟩
  · cases e
  · cases e
    exact frozen_of_row w g i _ _ hg
set_option maxRecDepth 100000 in
theorem Ow.cellG {w : World} {base g n cap : Nat} {l : List UInt8} (h : Ow w base (.slice (some ⟨g, 0, none⟩) n cap) l) (i : Nat) (hi : i < l.length) : w.cell? ⟨g, i, none⟩ = some (.int .u8 (l[i].toNat : Int)) := by
  have := World.ownsRow.cells h (g := g) rfl i _ (cs_get l i hi)
  rwa [Addr.add_lit, Nat.zero_add] at this
set_option maxRecDepth 100000 in
theorem Ow.rdG {w : World} {base g n cap : Nat} {l : List UInt8} (h : Ow w base (.slice (some ⟨g, 0, none⟩) n cap) l) : Rd w w.heap.size (some ⟨g, 0, none⟩) l := by
  obtain ⟨A, c, e, _, _, hr⟩ := h.form
  cases e
  exact hr
set_option maxRecDepth 100000 in
theorem Ow.callG {w w' : World} {base : Nat} {v : Value} {l : List UInt8} (h : Ow w base v l) (hb : Below w.heap.size w w') : Ow w' base v l := by
  refine ⟨h.1, ?_⟩
  rcases h.2 with h0 | ⟨g, cap, cur, e, hbg, hg, hn, hcap, hsz, htake⟩
  · exact .inl h0
  · exact .inr ⟨g, cap, cur, e, hbg, oldG hg hb (Nat.le_refl _), hn, hcap, hsz, htake⟩
set_option maxRecDepth 100000 in
theorem Ow.bdG {w : World} {base g n cap : Nat} {l : List UInt8} (h : Ow w base (.slice (some ⟨g, 0, none⟩) n cap) l) : n = l.length ∧ l.length ≤ cap ∧ cap ≤ 9223372036854775807 ∧ base ≤ g ∧ g < w.heap.size := by
  rcases h.2 with ⟨e, _⟩ | ⟨g', cap', cur, e, hb, hg, hn, hcap, hsz, htake⟩
  · cases e
  · cases e
    exact ⟨rfl, hn, by simpa [maxLen] using hcap, hb, (Array.getElem?_eq_some_iff.1 hg).1⟩
end Go.Proofs.YtpfjecjfooefoaaDoor
