
/- The document's answers: TakeBig, Big, Hex, Unhex. -/
import Derived.Test.YtfppcmhhbheaiaaDoorJ10
namespace Go.Proofs.YtfppcmhhbheaiaaDoor
open Go.RowKit

set_option maxRecDepth 100000 in
theorem numL_append (a b : List UInt8) : numL (a ++ b) = numL a * 256 ^ b.length + numL b := by
  induction b using snoc_ind with
  | h0 => simp [numL]
  | h1 b c ih =>
    rw [← List.append_assoc, numL_snoc, ih, numL_snoc, List.length_append, List.length_cons, List.length_nil, Nat.pow_add, Nat.mul_add, ← Nat.mul_assoc, Nat.mul_comm 256 (numL a), Nat.mul_assoc, Nat.mul_comm 256 (256 ^ b.length), ← Nat.mul_assoc]
    omega
set_option maxRecDepth 100000 in
theorem numL_take (l : List UInt8) (k : Nat) : numL (l.take k) ≤ numL l := by
  have h := numL_append (l.take k) (l.drop k)
  rw [List.take_append_drop] at h
  rw [h]
  have : numL (l.take k) * 1 ≤ numL (l.take k) * 256 ^ (l.drop k).length := Nat.mul_le_mul_left _ (Nat.pow_pos (by omega))
  omega
set_option maxRecDepth 100000 in
theorem numL_eight (l : List UInt8) (c : UInt8) (h8 : l.length = 8) (h : l[0]? = some c) : (128 ≤ c.toNat → ¬ numL l ≤ 9223372036854775807) ∧ (c.toNat < 128 → numL l ≤ 9223372036854775807) := by
  cases l with
  | nil => simp at h8
  | cons x t =>
    simp at h
    subst h
    simp only [List.length_cons] at h8
    have h7 : t.length = 7 := by omega
    have e := numL_append [x] t
    have hlt := numL_lt t
    rw [h7] at e hlt
    have e1 : numL [x] = x.toNat := by simp [numL]
    rw [List.singleton_append, e1] at e
    omega

set_option maxRecDepth 100000 in
theorem refTakeBig_bad (A : Option Addr) (n c : Nat) (at_ w : Int) (W : World) (h : w < 1 ∨ 8 < w ∨ at_ < 0 ∨ n < at_) :
    Calls Tryd.prog 29 #[.slice A n c, .int .i64 at_, .int .i64 w] W fun e W' => e = .returned (.tuple #[.int .i64 0, .int .i64 0, .int .i64 1]) ∧ W = W' := by
  by_cases h1 : w < 1
  · go_enter Tryd.func29, Tryd.ntmps29
    go_wp2
    go_ret3
    exact ⟨rfl, rfl⟩
  · by_cases h2 : 8 < w
    · go_enter Tryd.func29, Tryd.ntmps29
      go_wp2
      go_ret3
      exact ⟨rfl, rfl⟩
    · by_cases h3 : at_ < 0
      · go_enter Tryd.func29, Tryd.ntmps29
        go_wp2
        go_ret3
        exact ⟨rfl, rfl⟩
      · have h4 : n < at_ := by omega
        go_enter Tryd.func29, Tryd.ntmps29
        go_wp2
        go_ret3
        exact ⟨rfl, rfl⟩
set_option maxRecDepth 100000 in
theorem refTakeBig_short (A : Option Addr) (n c p w : Nat) (W : World) (h1 : 1 ≤ w) (h2 : w ≤ 8) (hp : p ≤ n) (_hn : n ≤ 1000000) (h : n < p + w) :
    Calls Tryd.prog 29 #[.slice A n c, .int .i64 p, .int .i64 w] W fun e W' => e = .returned (.tuple #[.int .i64 0, .int .i64 0, .int .i64 3]) ∧ W = W' := by
  go_enter Tryd.func29, Tryd.ntmps29
  go_wp2
  go_ret3
  exact ⟨rfl, rfl⟩

set_option maxRecDepth 100000 in
set_option maxHeartbeats 400000 in
theorem refTakeBig_any (A : Option Addr) (l : List UInt8) (c p w : Nat) (W : World) (h1 : 1 ≤ w) (h2 : w ≤ 8) (hn : l.length ≤ 1000000) (h : p + w ≤ l.length) (_hc : l.length ≤ c) (hr : Rd W W.heap.size A l) :
    Calls Tryd.prog 29 #[.slice A l.length c, .int .i64 p, .int .i64 w] W fun e W' => e = .returned (takeBigV l p w) ∧ W = W' := by
  obtain ⟨b, o, rfl, hb, hcell⟩ := hr (by omega)
  have hc0 := hcell p (by omega)
  have hlen : ((l.drop p).take w).length = w := by rw [List.length_take, List.length_drop]; omega
  have hget0 : ((l.drop p).take w)[0]? = some l[p] := by
    rw [List.getElem?_take_of_lt (by omega), List.getElem?_drop, Nat.add_zero, List.getElem?_eq_getElem (by omega)]
  generalize l[p] = x0 at hc0 hget0
  by_cases hbig : w = 8 ∧ 128 ≤ x0.toNat
  · have hge' : (128 : Int) ≤ (x0.toNat : Int) := by omega
    have h8' : ((w : Int) == 8) = true := by simp; omega
    have hno := (numL_eight _ _ (hlen.trans hbig.1) hget0).1 hbig.2
    have hV : takeBigV l p w = .tuple #[.int .i64 0, .int .i64 0, .int .i64 2] := by rw [takeBigV, if_neg hno]
    have HV := Lib.hid hV
    clear hV hno hget0 hlen hbig hcell
    go_enter Tryd.func29, Tryd.ntmps29
    go_wp2
    go_ret3
    exact ⟨by rw [HV.out]; rfl, rfl⟩
  · have hle : numL ((l.drop p).take w) ≤ 9223372036854775807 := by
      by_cases h8 : w = 8
      · exact (numL_eight _ _ (hlen.trans h8) hget0).2 (by omega)
      · have a := numL_lt ((l.drop p).take w)
        have b' : 256 ^ ((l.drop p).take w).length ≤ 256 ^ 7 := Nat.pow_le_pow_right (by omega) (by rw [hlen]; omega)
        omega
    have hV : takeBigV l p w = .tuple #[.int .i64 (numL ((l.drop p).take w)), .int .i64 ((p : Int) + w), .int .i64 0] := by rw [takeBigV, if_pos hle]
    have HV := Lib.hid hV
    have HLE := Lib.hid hle
    clear hV hget0 hle hlen
    have HC := Lib.hid hcell
    clear hcell hr
    have hlt8 : w = 8 → (x0.toNat : Int) ≤ 127 := fun h => by omega
    by_cases h8 : w = 8
    all_goals
      have hw8 : ((w : Int) == 8) = decide (w = 8) := by rw [Bool.eq_iff_iff]; simp; omega
      first | rw [decide_eq_true h8] at hw8 | rw [decide_eq_false h8] at hw8
      first | have hlt8' := hlt8 h8 | skip
      clear hlt8 h8 hbig
      go_enter Tryd.func29, Tryd.ntmps29
      go_wp2
      go_loop [9, 10] (fun q i => ∃ k : Nat, k ≤ w ∧ i = .int .i64 k ∧ q = .int .i64 (numL ((l.drop p).take k))) (fun _ i => w - (intOf i).toNat)
      case atStart => exact ⟨0, Nat.zero_le _, rfl, rfl⟩
      case round =>
        obtain ⟨k, hk, rfl, rfl⟩ := hrel
        by_cases hlt : k < w
        · have hc1 := HC.out (p + k) (by omega)
          rw [← Nat.add_assoc] at hc1
          have hsn : (l.drop p).take (k + 1) = (l.drop p).take k ++ [l[p + k]] := by
            rw [List.take_succ_eq_append_getElem (by rw [List.length_drop]; omega)]
            simp
          have e2 := numL_snoc ((l.drop p).take k) l[p + k]
          rw [← hsn] at e2
          have hb1 : numL ((l.drop p).take (k + 1)) ≤ 9223372036854775807 := by
            have a := numL_take ((l.drop p).take w) (k + 1)
            rw [List.take_take, Nat.min_eq_left (by omega)] at a
            exact Nat.le_trans a HLE.out
          rw [e2] at hb1
          have E2 := Lib.hid e2
          have ha : o + (p + k) = o + p + k := by omega
          clear e2 hsn
          generalize numL ((l.drop p).take k) = N at *
          generalize l[p + k] = x at *
          have hcc : W.cell? ⟨b, o + (p + k), none⟩ = some (.int .u8 (x.toNat : Int)) := by rw [ha]; exact hc1
          have i1 : ((p : Int) + (k : Int)).toNat = p + k := by omega
          clear ha
          go_wp2
          go_round
          case rel => exact ⟨k + 1, by omega, by go_num, by rw [E2.out]; go_num⟩
          case measure => simp [intOf]; omega
        · have hkw : k = w := by omega
          have HV2 := HV.out
          rw [← hkw] at HV2
          have HV3 := Lib.hid HV2
          have HK := Lib.hid hkw
          clear HV2 hkw
          generalize numL ((l.drop p).take k) = N at *
          go_wp2
          go_ret3
          exact ⟨by rw [← HK.out, HV3.out]; rfl, rfl⟩

set_option maxRecDepth 100000 in
theorem refTakeBig_all (A : Option Addr) (l : List UInt8) (c : Nat) (at_ w : Int) (W : World) (hl : l.length ≤ 1000000) (hc : l.length ≤ c) (hr : Rd W W.heap.size A l) :
    Calls Tryd.prog 29 #[.slice A l.length c, .int .i64 at_, .int .i64 w] W fun e W' => e = .returned (.tuple #[.int .i64 (tgS l at_ w).1, .int .i64 (tgS l at_ w).2.1, .int .i64 (tgS l at_ w).2.2]) ∧ W = W' := by
  unfold tgS
  by_cases h : w < 1 ∨ 8 < w ∨ at_ < 0 ∨ (l.length : Int) < at_
  · rw [if_pos h]
    exact refTakeBig_bad A l.length c at_ w W h
  · rw [if_neg h]
    obtain ⟨w, rfl⟩ := Int.eq_ofNat_of_zero_le (show 0 ≤ w by omega)
    obtain ⟨p, rfl⟩ := Int.eq_ofNat_of_zero_le (show 0 ≤ at_ by omega)
    simp only [Int.toNat_natCast]
    by_cases h2 : l.length < p + w
    · rw [if_pos h2]
      exact refTakeBig_short A l.length c p w W (by omega) (by omega) (by omega) hl h2
    · rw [if_neg h2]
      refine (refTakeBig_any A l c p w W (by omega) (by omega) hl (by omega) hc hr).mono fun e W' h' => ⟨h'.1.trans ?_, h'.2⟩
      unfold takeBigV
      split <;> rfl

set_option maxRecDepth 100000 in
theorem bigE_no {n w : Int} (h : ¬ bigOk n w = true) : bigL n w = [] ∧ bigE n w = 1 := by unfold bigL bigE; rw [if_neg h, if_neg h]; exact ⟨rfl, rfl⟩
set_option maxRecDepth 100000 in
theorem bigE_yes {n w : Nat} (h : bigOk n w = true) : bigL n w = dgL 0 256 n w ∧ bigE n w = 0 := by unfold bigL bigE; rw [if_pos h, if_pos h]; exact ⟨rfl, rfl⟩

set_option maxRecDepth 100000 in
set_option maxHeartbeats 1000000 in
theorem refBig_any (n w : Int) (W : World) (hn : n ≤ 9223372036854775807) :
    Calls Tryd.prog 26 #[.int .i64 n, .int .i64 w] W fun e W' => Ans W' e (bigL n w) (bigL n w).length (.int .i64 (bigE n w)) ∧ Below W.heap.size W W' := by
  by_cases h : w < 1 ∨ 8 < w ∨ n < 0
  · obtain ⟨e1, e2⟩ := bigE_no (n := n) (w := w) (by rw [bigOk_iff]; omega)
    rw [e1, e2]
    by_cases h1 : w < 1
    · go_enter Tryd.func26, Tryd.ntmps26
      go_wp2
      go_ret2
      exact ⟨⟨none, 0, rfl, Nat.le_refl _, by omega, Rd.nil⟩, Below.refl _ _⟩
    · by_cases h2 : 8 < w
      · go_enter Tryd.func26, Tryd.ntmps26
        go_wp2
        go_ret2
        exact ⟨⟨none, 0, rfl, Nat.le_refl _, by omega, Rd.nil⟩, Below.refl _ _⟩
      · have h3 : n < 0 := by omega
        go_enter Tryd.func26, Tryd.ntmps26
        go_wp2
        go_ret2
        exact ⟨⟨none, 0, rfl, Nat.le_refl _, by omega, Rd.nil⟩, Below.refl _ _⟩
  · obtain ⟨n, rfl⟩ := Int.eq_ofNat_of_zero_le (show 0 ≤ n by omega)
    obtain ⟨w, rfl⟩ := Int.eq_ofNat_of_zero_le (show 0 ≤ w by omega)
    have hw1 : 1 ≤ w := by omega
    have hw2 : w ≤ 8 := by omega
    obtain ⟨P, hP, hP1⟩ := pow_named 256 w (by omega)
    by_cases hno : w < 8 ∧ P ≤ n
    · obtain ⟨hw7, hPn⟩ := hno
      obtain ⟨e1, e2⟩ := bigE_no (n := (n : Int)) (w := (w : Int)) (by rw [bigOk_iff]; simp only [Int.toNat_natCast]; rw [← hP.out]; omega)
      rw [e1, e2]
      clear e1 e2 h
      go_enter Tryd.func26, Tryd.ntmps26
      go_wp2_with fail
      refine (power_at 256 w P hP (by omega) (by omega) (by omega) _).mono ?_
      rintro e W1 ⟨rfl, rfl⟩
      go_wp2
      go_ret2
      exact ⟨⟨none, 0, rfl, Nat.le_refl _, by omega, Rd.nil⟩, Below.refl _ _⟩
    · have hnP : n < 256 ^ w := by
        by_cases h8 : w < 8
        · rw [← hP.out]; omega
        · obtain rfl : w = 8 := by omega
          omega
      obtain ⟨e1, e2⟩ := bigE_yes (n := n) (w := w) (by rw [bigOk_iff]; simp only [Int.toNat_natCast]; omega)
      rw [e1, e2]
      have hPb : w < 8 → P ≤ 9223372036854775807 := fun h8 => by
        rw [hP.out]
        exact Nat.le_trans (Nat.pow_le_pow_right (by omega) (show w ≤ 7 by omega)) (by decide)
      have HPb := Lib.hid hPb
      have HNP := Lib.hid hnP
      have HNo := Lib.hid hno
      have hmk := run_make_row' (P := Tryd.prog) 22 5 (.int .u8 0) 1 Tryd.underlying22 info5 rfl .i64 .i64 w (by omega) (by omega)
      clear e1 e2 h hPb hnP hno
      by_cases h8 : w < 8
      all_goals
        go_enter Tryd.func26, Tryd.ntmps26
        go_wp2_with (go_at_call 38; refine (power_at 256 w P hP (by omega) (HPb.out h8) (by omega) _).mono ?_; rintro e W1 ⟨rfl, rfl⟩; have hPn : (n : Int) < (P : Int) := by have := HNo.out; omega)
        have hrow := World.rowIs_made W (.int .u8 0) w 5
        have hbel : Below W.heap.size W (W.alloc (.cells (madeCells #[.int .u8 0] w) 5)) := (Below.refl _ _).alloc (Nat.le_refl _) _
        clear hmk
        go_loopw [0, 7] (fun q i wr => ∃ (m : Nat) (t : Nat), m ≤ w ∧ i = .int .i64 ((m : Int) - 1) ∧ q = .int .i64 t ∧ Hid (t = n / 256 ^ (w - m)) ∧ t ≤ 9223372036854775807 ∧ wr.rowIs W.heap.size 5 w (rowD 0 256 n w m) ∧ Below W.heap.size W wr) (fun _ i _ => (intOf i + 1).toNat)
        case atStart => exact ⟨w, n, Nat.le_refl _, rfl, rfl, Lib.hid (by simp), by omega, hrow.congr (fun i hi => by unfold rowD; rw [if_pos hi]), hbel⟩
        case round =>
          obtain ⟨m, t, hm, rfl, rfl, ht, htb, hr, hb⟩ := hrel
          clear hrow hbel
          by_cases hlt : 1 ≤ m
          · obtain ⟨m, rfl⟩ : ∃ k, m = k + 1 := ⟨m - 1, by omega⟩
            have hc := hr.cell (i := m) (by omega)
            have hf := hr.frozen m
            have e : ((m + 1 : Nat) : Int) - 1 = (m : Int) := by omega
            rw [e]
            have HR := Lib.hid hr
            have HB := Lib.hid hb
            clear hr hb e
            go_wp2
            go_roundw
            case rel =>
              refine ⟨m, t / 256, by omega, rfl, by go_num, Lib.hid ?_, by omega, (HR.out.set m _).congr (fun p hp => ?_), HB.out.setCell (Nat.le_refl _) _⟩
              · rw [ht.out, Nat.div_div_eq_div_mul, ← Nat.pow_succ, show (w - (m + 1)).succ = w - m from by omega]
              · exact rowD_step 0 256 n w m p _ (by
                  rw [dgAt_nat 0 256 n w m (by omega) (by omega), show w - 1 - m = w - (m + 1) from by omega, ← ht.out]
                  omega)
            case measure => simp [intOf]
          · obtain rfl : m = 0 := by omega
            have hsl := Sl.row (l := dgL 0 256 n w) hr (dgL_length _ _ _ _) (by omega) (fun j hj => by rw [dgL_get]; unfold rowD; rw [if_neg (by omega)])
            have HS := Lib.hid hsl
            have HB := Lib.hid hb
            clear hb hr ht htb hsl
            go_wp2
            go_ret2
            exact ⟨Ans.of _ ⟨_, rfl, HS.out⟩ rfl, HB.out⟩

def worthV (c : UInt8) : Nat := (gHalf c).getD 16
set_option maxRecDepth 100000 in
theorem worthV_some {c : UInt8} (h : worthV c ≤ 15) : ∃ v, gHalf c = some v ∧ worthV c = v := by
  unfold worthV at h ⊢
  cases hc : gHalf c with
  | none => rw [hc] at h; simp at h
  | some v => exact ⟨v, rfl, rfl⟩
set_option maxRecDepth 100000 in
theorem worthV_none {c : UInt8} (h : 15 < worthV c) : gHalf c = none := by
  unfold worthV at h
  cases hc : gHalf c with
  | none => rfl
  | some v => rw [hc] at h; have := (gHalf_w _ _ hc).1; simp at h; omega
set_option maxRecDepth 100000 in
theorem unpair_next (t : List UInt8) (k : Nat) (h2 : t.length % 2 = 0) (hk : 2 * k + 1 < t.length) (a b : UInt8) (x y : Nat) (ha : t[2 * k]? = some a) (hb : t[2 * k + 1]? = some b) (ga : gHalf a = some x) (gb : gHalf b = some y) :
    (packL gHalf t).take k ++ [UInt8.ofNat (16 * x + y)] = (packL gHalf t).take (k + 1) := by
  have hl : k < (packL gHalf t).length := by rw [packL_length]; omega
  rw [List.take_succ_eq_append_getElem hl, packL_get]
  congr 2
  have ea : t.getD (2 * k) 0 = a := by simp [List.getD, ha]
  have eb : t.getD (2 * k + 1) 0 = b := by simp [List.getD, hb]
  unfold pkAt hvF
  rw [h2, if_neg (by omega), if_neg (by omega), Nat.sub_zero, Nat.sub_zero, ea, eb, ga, gb]
  rfl

end Go.Proofs.YtfppcmhhbheaiaaDoor
/- The document's big: a number's bytes, in a full slice of their own. -/

namespace Go.Proofs.YtfppcmhhbheaiaaDoor
open Go.RowKit

/-- a call's answer: a full slice in new memory -/
def AnsF (B : Nat) (W' : World) (e : Ending) (l : List UInt8) (n : Nat) : Prop := ∃ g, e = .returned (.slice (some ⟨g, 0, none⟩) n n) ∧ B ≤ g ∧ Rd W' W'.heap.size (some ⟨g, 0, none⟩) l
def AnsF2 (B : Nat) (W' : World) (e : Ending) (l : List UInt8) (n : Nat) : Prop := ∃ g, e = .returned (.tuple #[.slice (some ⟨g, 0, none⟩) n n, .int .i64 0]) ∧ B ≤ g ∧ Rd W' W'.heap.size (some ⟨g, 0, none⟩) l
set_option maxRecDepth 100000 in
set_option maxHeartbeats 1000000 in
theorem refBigF_any (n w : Nat) (W : World) (hn : n ≤ 9223372036854775807) (hw1 : 1 ≤ w) (hw2 : w ≤ 8) (hnP : n < 256 ^ w) :
    Calls Tryd.prog 26 #[.int .i64 n, .int .i64 w] W fun e W' => AnsF2 W.heap.size W' e (dgL 0 256 n w) w ∧ Below W.heap.size W W' := by
  obtain ⟨P, hP, hP1⟩ := pow_named 256 w (by omega)
  have hno : ¬ (w < 8 ∧ P ≤ n) := by rw [hP.out]; omega
  have hPb : w < 8 → P ≤ 9223372036854775807 := fun h8 => by
    rw [hP.out]
    exact Nat.le_trans (Nat.pow_le_pow_right (by omega) (show w ≤ 7 by omega)) (by decide)
  have HPb := Lib.hid hPb
  have HNP := Lib.hid hnP
  have HNo := Lib.hid hno
  have hmk := run_make_row' (P := Tryd.prog) 22 5 (.int .u8 0) 1 Tryd.underlying22 info5 rfl .i64 .i64 w (by omega) (by omega)
  clear hPb hnP hno
  by_cases h8 : w < 8
  all_goals
    go_enter Tryd.func26, Tryd.ntmps26
    go_wp2_with (go_at_call 38; refine (power_at 256 w P hP (by omega) (HPb.out h8) (by omega) _).mono ?_; rintro e W1 ⟨rfl, rfl⟩; have hPn : (n : Int) < (P : Int) := by have := HNo.out; omega)
    have hrow := World.rowIs_made W (.int .u8 0) w 5
    have hbel : Below W.heap.size W (W.alloc (.cells (madeCells #[.int .u8 0] w) 5)) := (Below.refl _ _).alloc (Nat.le_refl _) _
    clear hmk
    go_loopw [0, 7] (fun q i wr => ∃ (m : Nat) (t : Nat), m ≤ w ∧ i = .int .i64 ((m : Int) - 1) ∧ q = .int .i64 t ∧ Hid (t = n / 256 ^ (w - m)) ∧ t ≤ 9223372036854775807 ∧ wr.rowIs W.heap.size 5 w (rowD 0 256 n w m) ∧ Below W.heap.size W wr) (fun _ i _ => (intOf i + 1).toNat)
    case atStart => exact ⟨w, n, Nat.le_refl _, rfl, rfl, Lib.hid (by simp), by omega, hrow.congr (fun i hi => by unfold rowD; rw [if_pos hi]), hbel⟩
    case round =>
      obtain ⟨m, t, hm, rfl, rfl, ht, htb, hr, hb⟩ := hrel
      clear hrow hbel
      by_cases hlt : 1 ≤ m
      · obtain ⟨m, rfl⟩ : ∃ k, m = k + 1 := ⟨m - 1, by omega⟩
        have hc := hr.cell (i := m) (by omega)
        have hf := hr.frozen m
        have e : ((m + 1 : Nat) : Int) - 1 = (m : Int) := by omega
        rw [e]
        have HR := Lib.hid hr
        have HB := Lib.hid hb
        clear hr hb e
        go_wp2
        go_roundw
        case rel =>
          refine ⟨m, t / 256, by omega, rfl, by go_num, Lib.hid ?_, by omega, (HR.out.set m _).congr (fun p hp => ?_), HB.out.setCell (Nat.le_refl _) _⟩
          · rw [ht.out, Nat.div_div_eq_div_mul, ← Nat.pow_succ, show (w - (m + 1)).succ = w - m from by omega]
          · exact rowD_step 0 256 n w m p _ (by
              rw [dgAt_nat 0 256 n w m (by omega) (by omega), show w - 1 - m = w - (m + 1) from by omega, ← ht.out]
              omega)
        case measure => simp [intOf]
      · obtain rfl : m = 0 := by omega
        have hsl := Sl.row (l := dgL 0 256 n w) hr (dgL_length _ _ _ _) (by omega) (fun j hj => by rw [dgL_get]; unfold rowD; rw [if_neg (by omega)])
        obtain ⟨A, c, e, -, -, h3⟩ := hsl
        have hA : A = some ⟨W.heap.size, 0, none⟩ := by injection e with e1; exact e1.symm
        rw [hA] at h3
        have HS := Lib.hid h3
        have HB := Lib.hid hb
        clear hb hr ht htb e h3 hA
        go_wp2
        go_ret2
        exact ⟨⟨_, rfl, Nat.le_refl _, HS.out⟩, HB.out⟩
end Go.Proofs.YtfppcmhhbheaiaaDoor
