
/- The document's answers: TakeBig, Big, Hex, Unhex. -/
import Derived.Test.YtcableacihkggaaJ09
namespace Go.Proofs.Ytcableacihkggaa
open Go.RowKit

set_option maxRecDepth 100000 in
theorem numL_append (a b : List UInt8) : numL (a ++ b) = numL a * 256 ^ b.length + numL b := by
  induction b using snoc_ind with
  | h0 => simp [numL]
  | h1 b c ih =>
    rw [← List.append_assoc, numL_snoc, ih, numL_snoc, List.length_append, List.length_cons, List.length_nil, Nat.pow_add, Nat.mul_add, ← Nat.mul_assoc, Nat.mul_comm 256 (numL a), Nat.mul_assoc, Nat.mul_comm 256 (256 ^ b.length), ← Nat.mul_assoc]
    omega
set_option maxRecDepth 100000 in
theorem numL_take (l : List UInt8) (k : Nat) : numL (l.take k) ≤ numL l := by
  have h := numL_append (l.take k) (l.drop k)
  rw [List.take_append_drop] at h
  rw [h]
  have : numL (l.take k) * 1 ≤ numL (l.take k) * 256 ^ (l.drop k).length := Nat.mul_le_mul_left _ (Nat.pow_pos (by omega))
  omega
set_option maxRecDepth 100000 in
theorem numL_eight (l : List UInt8) (c : UInt8) (h8 : l.length = 8) (h : l[0]? = some c) : (128 ≤ c.toNat → ¬ numL l ≤ 9223372036854775807) ∧ (c.toNat < 128 → numL l ≤ 9223372036854775807) := by
  cases l with
  | nil => simp at h8
  | cons x t =>
    simp at h
    subst h
    simp only [List.length_cons] at h8
    have h7 : t.length = 7 := by omega
    have e := numL_append [x] t
    have hlt := numL_lt t
    rw [h7] at e hlt
    have e1 : numL [x] = x.toNat := by simp [numL]
    rw [List.singleton_append, e1] at e
    omega

set_option maxRecDepth 100000 in
theorem bigE_no {n w : Int} (h : ¬ bigOk n w = true) : bigL n w = [] ∧ bigE n w = 1 := by unfold bigL bigE; rw [if_neg h, if_neg h]; exact ⟨rfl, rfl⟩
set_option maxRecDepth 100000 in
theorem bigE_yes {n w : Nat} (h : bigOk n w = true) : bigL n w = dgL 0 256 n w ∧ bigE n w = 0 := by unfold bigL bigE; rw [if_pos h, if_pos h]; exact ⟨rfl, rfl⟩

set_option maxRecDepth 100000 in
theorem sign_any (q : Int) (v : Nat) (hq : q = (v : Int)) (h : v < 16) (w : World) :
    Calls Try.prog 29 #[.int .u8 q] w fun e w' => e = .returned (.int .u8 ((sgn v).toNat : Int)) ∧ w = w' := by
  subst hq
  have e := sgn_nat v h
  by_cases h10 : v < 10
  · rw [if_pos h10] at e
    refine (sign_figure (v : Int) w (by omega) (by omega)).mono fun e' w' h' => ⟨h'.1.trans (ret_int (by omega)), h'.2⟩
  · rw [if_neg h10] at e
    refine (sign_letter (v : Int) w (by omega) (by omega)).mono fun e' w' h' => ⟨h'.1.trans (ret_int (by omega)), h'.2⟩

set_option maxRecDepth 100000 in
set_option maxHeartbeats 1000000 in
theorem refHex_any (A : Option Addr) (l : List UInt8) (c : Nat) (w : World) (hl : l.length ≤ 1000000) (hr : Rd w w.heap.size A l) :
    Calls Try.prog 22 #[.slice A l.length c] w fun e w' => e = .returned (.string ⟨(hx l).toArray⟩) ∧ Below w.heap.size w w' := by
  go_enter Try.func22, Try.ntmps22
  go_wp2
  go_loopw [3, 4] (fun v i wr => ∃ k : Nat, k ≤ l.length ∧ i = .int .i64 k ∧ Ow wr w.heap.size v (hx (l.take k)) ∧ Below w.heap.size w wr) (fun _ i _ => l.length - (intOf i).toNat)
  case atStart => exact ⟨0, Nat.zero_le _, rfl, Ow.nil, Below.refl _ _⟩
  case round =>
    obtain ⟨k, hk, rfl, hown, hb⟩ := hrel
    by_cases hlt : k < l.length
    · obtain ⟨b, o, rfl, hbB, hc⟩ := hr.at_ hlt
      have hc' := (hb.cell (p := ⟨b, o + k, none⟩) hbB).trans hc
      clear hc
      go_wp2
      have HW := Lib.hid hown
      have HB := Lib.hid hb
      have hltI : (k : Int) < (l.length : Int) := by omega
      have hnx : hx (l.take k) ++ [sgn (l[k].toNat / 16), sgn (l[k].toNat % 16)] = hx (l.take (k + 1)) := by rw [← hx_snoc, ← take_snoc l k hlt]
      have HNX := Lib.hid hnx
      clear hnx
      generalize l[k] = x at *
      have hx0 := x.toNat_lt
      obtain ⟨Q1, hQ1⟩ : ∃ Q1 : Int, Q1 = (x.toNat : Int) / 16 := ⟨_, rfl⟩
      obtain ⟨Q2, hQ2⟩ : ∃ Q2 : Int, Q2 = (x.toNat : Int) % 16 := ⟨_, rfl⟩
      have S1 := Lib.hid (fun W => sign_any Q1 (x.toNat / 16) (by omega) (by omega) W)
      have S2 := Lib.hid (fun W => sign_any Q2 (x.toNat % 16) (by omega) (by omega) W)
      have q1 : IntKind.u8.wrap Q1 = Q1 := by rw [IntKind.wrap_u8]; omega
      have q2 : IntKind.u8.wrap Q2 = Q2 := by rw [IntKind.wrap_u8]; omega
      have q3 : (x.toNat : Int) / 16 = Q1 := hQ1.symm
      have q4 : (x.toNat : Int).tmod 16 = Q2 := by rw [Int.tmod_eq_emod_of_nonneg (by omega)]; exact hQ2.symm
      clear hown hb hx0 hQ1 hQ2
      have hlen : (hx (l.take k)).length ≤ 2000000 := by rw [hx_length, List.length_take]; omega
      have hsz := HB.out.size
      go_region_law (first | (refine step_app rfl _ (.tmp 11) (.tmp 24) rfl w.heap.size _ _ [sgn (x.toNat / 16), sgn (x.toNat % 16)] rfl (by exact HW.out.alloc _) ⟨_, 0, none⟩ 2 _ rfl rfl (by exact news2 _ _ _) (by simp only [List.length_cons, List.length_nil]; omega) (by exact le_alloc hsz _) ?_; intro v2 w2 hown2 hgrow2) | (go_simp; go_at_call_of 29 (Value.int IntKind.u8 Q1); refine (S1.out _).mono ?_; rintro e w' ⟨rfl, rfl⟩) | (go_simp; go_at_call_of 29 (Value.int IntKind.u8 Q2); refine (S2.out _).mono ?_; rintro e w' ⟨rfl, rfl⟩))
      all_goals
        have HB2 := Lib.hid (Ow.below (w0 := w) (by exact HW.out.alloc _) (by exact HB.out.drew.alloc hsz _) hgrow2 (by exact le_alloc hsz _))
        rw [HNX.out] at hown2
        have HW2 := Lib.hid hown2
        clear hgrow2 hown2 q1 q2 q3 q4
        go_wp2
        go_roundw
        case rel => exact ⟨k + 1, by omega, by go_num, HW2.out, HB2.out⟩
        case measure => simp [intOf]; omega
    · have hkl : k = l.length := by omega
      rw [hkl, List.take_length] at hown
      have hst : ∀ W, W = wr → (convert 22 9 u3).run Try.prog W = .ok (.string ⟨(hx l).toArray⟩) W := by
        intro W hW
        subst hW
        obtain ⟨A', c', hv, _, _, hr'⟩ := hown.sl
        rw [hv]
        exact run_str hr' c' _ _ _ Try.underlying22 Try.underlying5 Try.underlying9
      have hst' := hst wr rfl
      clear hst hkl hown
      have HB := Lib.hid hb
      clear hb
      go_wp2
      go_ret
      exact ⟨rfl, HB.out⟩

def worthV (c : UInt8) : Nat := (gHalf c).getD 16
set_option maxRecDepth 100000 in
theorem worthV_some {c : UInt8} (h : worthV c ≤ 15) : ∃ v, gHalf c = some v ∧ worthV c = v := by
  unfold worthV at h ⊢
  cases hc : gHalf c with
  | none => rw [hc] at h; simp at h
  | some v => exact ⟨v, rfl, rfl⟩
set_option maxRecDepth 100000 in
theorem worthV_none {c : UInt8} (h : 15 < worthV c) : gHalf c = none := by
  unfold worthV at h
  cases hc : gHalf c with
  | none => rfl
  | some v => rw [hc] at h; have := (gHalf_w _ _ hc).1; simp at h; omega
set_option maxRecDepth 100000 in
theorem unpair_next (t : List UInt8) (k : Nat) (h2 : t.length % 2 = 0) (hk : 2 * k + 1 < t.length) (a b : UInt8) (x y : Nat) (ha : t[2 * k]? = some a) (hb : t[2 * k + 1]? = some b) (ga : gHalf a = some x) (gb : gHalf b = some y) :
    (packL gHalf t).take k ++ [UInt8.ofNat (16 * x + y)] = (packL gHalf t).take (k + 1) := by
  have hl : k < (packL gHalf t).length := by rw [packL_length]; omega
  rw [List.take_succ_eq_append_getElem hl, packL_get]
  congr 2
  have ea : t.getD (2 * k) 0 = a := by simp [List.getD, ha]
  have eb : t.getD (2 * k + 1) 0 = b := by simp [List.getD, hb]
  unfold pkAt hvF
  rw [h2, if_neg (by omega), if_neg (by omega), Nat.sub_zero, Nat.sub_zero, ea, eb, ga, gb]
  rfl

end Go.Proofs.Ytcableacihkggaa
