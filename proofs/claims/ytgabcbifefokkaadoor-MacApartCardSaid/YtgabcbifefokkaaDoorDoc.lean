
/- The document's Hex, and Same: what later stages ask of them. -/
import Derived.Test.YtgabcbifefokkaaDoorBytes
import Derived.Deep.RegionLaw
import Derived.Deep.DeepMust
namespace Go.Proofs.YtgabcbifefokkaaDoor
open Go.RowKit

def sgn (n : Nat) : UInt8 := if n < 10 then UInt8.ofNat (48 + n) else UInt8.ofNat (87 + n)
def hx (l : List UInt8) : List UInt8 := l.flatMap fun b => [sgn (b.toNat / 16), sgn (b.toNat % 16)]
theorem hx_length (l : List UInt8) : (hx l).length = 2 * l.length := by
  induction l with
  | nil => rfl
  | cons a l ih => simp only [hx, List.flatMap_cons, List.length_append, List.length_cons, List.length_nil] at ih ⊢; omega
theorem take_snoc (l : List UInt8) (k : Nat) (h : k < l.length) : l.take (k + 1) = l.take k ++ [l[k]] := by
  rw [List.take_succ_eq_append_getElem h]
theorem hx_snoc (l : List UInt8) (c : UInt8) : hx (l ++ [c]) = hx l ++ [sgn (c.toNat / 16), sgn (c.toNat % 16)] := by
  simp [hx]
theorem sign_figure (c : Int) (w : World) (h1 : 0 ≤ c) (h2 : c < 10) :
    Calls Tryd.prog 32 #[.int .u8 c] w fun e w' => e = .returned (.int .u8 (c + 48)) ∧ w = w' := by
  go_enter Tryd.func32, Tryd.ntmps32
  go_wp2
  go_ret
  exact ⟨by simp; omega, rfl⟩
theorem sign_letter (c : Int) (w : World) (h1 : 10 ≤ c) (h2 : c < 16) :
    Calls Tryd.prog 32 #[.int .u8 c] w fun e w' => e = .returned (.int .u8 (c + 87)) ∧ w = w' := by
  go_enter Tryd.func32, Tryd.ntmps32
  go_wp2
  go_ret
  exact ⟨by simp; omega, rfl⟩
theorem sgn_nat (v : Nat) (h : v < 16) : (sgn v).toNat = if v < 10 then 48 + v else 87 + v := by
  unfold sgn
  split <;> rw [UInt8.toNat_ofNat'] <;> omega
theorem sign_any (q : Int) (v : Nat) (hq : q = (v : Int)) (h : v < 16) (w : World) :
    Calls Tryd.prog 32 #[.int .u8 q] w fun e w' => e = .returned (.int .u8 ((sgn v).toNat : Int)) ∧ w = w' := by
  subst hq
  have e := sgn_nat v h
  by_cases h10 : v < 10
  · rw [if_pos h10] at e
    refine (sign_figure (v : Int) w (by omega) (by omega)).mono fun e' w' h' => ⟨h'.1.trans (ret_int (by omega)), h'.2⟩
  · rw [if_neg h10] at e
    refine (sign_letter (v : Int) w (by omega) (by omega)).mono fun e' w' h' => ⟨h'.1.trans (ret_int (by omega)), h'.2⟩
set_option maxHeartbeats 1000000 in
theorem refHex_any (A : Option Addr) (l : List UInt8) (c : Nat) (w : World) (hl : l.length ≤ 1000000) (hr : Rd w w.heap.size A l) :
    Calls Tryd.prog 25 #[.slice A l.length c] w fun e w' => e = .returned (.string ⟨(hx l).toArray⟩) ∧ Below w.heap.size w w' := by
  go_enter Tryd.func25, Tryd.ntmps25
  go_wp2
  go_loopw [3, 4] (fun v i wr => ∃ k : Nat, k ≤ l.length ∧ i = .int .i64 k ∧ Ow wr w.heap.size v (hx (l.take k)) ∧ Below w.heap.size w wr) (fun _ i _ => l.length - (intOf i).toNat)
  case atStart => exact ⟨0, Nat.zero_le _, rfl, Ow.nil, Below.refl _ _⟩
  case round =>
    obtain ⟨k, hk, rfl, hown, hb⟩ := hrel
    by_cases hlt : k < l.length
    · obtain ⟨b, o, rfl, hbB, hc⟩ := hr.at_ hlt
      have hc' := (hb.cell (p := ⟨b, o + k, none⟩) hbB).trans hc
      clear hc
      go_wp2
      have HW := Lib.hid hown
      have HB := Lib.hid hb
      have hltI : (k : Int) < (l.length : Int) := by omega
      have hnx : hx (l.take k) ++ [sgn (l[k].toNat / 16), sgn (l[k].toNat % 16)] = hx (l.take (k + 1)) := by rw [← hx_snoc, ← take_snoc l k hlt]
      have HNX := Lib.hid hnx
      clear hnx
      generalize l[k] = x at *
      have hx0 := x.toNat_lt
      obtain ⟨Q1, hQ1⟩ : ∃ Q1 : Int, Q1 = (x.toNat : Int) / 16 := ⟨_, rfl⟩
      obtain ⟨Q2, hQ2⟩ : ∃ Q2 : Int, Q2 = (x.toNat : Int) % 16 := ⟨_, rfl⟩
      have S1 := Lib.hid (fun W => sign_any Q1 (x.toNat / 16) (by omega) (by omega) W)
      have S2 := Lib.hid (fun W => sign_any Q2 (x.toNat % 16) (by omega) (by omega) W)
      have q1 : IntKind.u8.wrap Q1 = Q1 := by rw [IntKind.wrap_u8]; omega
      have q2 : IntKind.u8.wrap Q2 = Q2 := by rw [IntKind.wrap_u8]; omega
      have q3 : (x.toNat : Int) / 16 = Q1 := hQ1.symm
      have q4 : (x.toNat : Int).tmod 16 = Q2 := by rw [Int.tmod_eq_emod_of_nonneg (by omega)]; exact hQ2.symm
      clear hown hb hx0 hQ1 hQ2
      have hlen : (hx (l.take k)).length ≤ 2000000 := by rw [hx_length, List.length_take]; omega
      have hsz := HB.out.size
      go_region_law (first | (refine step_app rfl _ (.tmp 11) (.tmp 24) rfl w.heap.size _ _ [sgn (x.toNat / 16), sgn (x.toNat % 16)] rfl (by exact HW.out.alloc _) ⟨_, 0, none⟩ 2 _ rfl rfl (by exact news2 _ _ _) (by simp only [List.length_cons, List.length_nil]; omega) (by exact le_alloc hsz _) ?_; intro v2 w2 hown2 hgrow2) | (go_simp; go_at_call_of 32 (Value.int IntKind.u8 Q1); refine (S1.out _).mono ?_; rintro e w' ⟨rfl, rfl⟩) | (go_simp; go_at_call_of 32 (Value.int IntKind.u8 Q2); refine (S2.out _).mono ?_; rintro e w' ⟨rfl, rfl⟩))
      all_goals
        have HB2 := Lib.hid (Ow.below (w0 := w) (by exact HW.out.alloc _) (by exact HB.out.drew.alloc hsz _) hgrow2 (by exact le_alloc hsz _))
        rw [HNX.out] at hown2
        have HW2 := Lib.hid hown2
        clear hgrow2 hown2 q1 q2 q3 q4
        go_wp2
        go_roundw
        case rel => exact ⟨k + 1, by omega, by go_num, HW2.out, HB2.out⟩
        case measure => simp [intOf]; omega
    · have hkl : k = l.length := by omega
      rw [hkl, List.take_length] at hown
      have hst : ∀ W, W = wr → (convert 22 9 u3).run Tryd.prog W = .ok (.string ⟨(hx l).toArray⟩) W := by
        intro W hW
        subst hW
        obtain ⟨A', c', hv, _, _, hr'⟩ := hown.sl
        rw [hv]
        exact run_str hr' c' _ _ _ Tryd.underlying22 Tryd.underlying5 Tryd.underlying9
      have hst' := hst wr rfl
      clear hst hkl hown
      have HB := Lib.hid hb
      clear hb
      go_wp2
      go_ret
      exact ⟨rfl, HB.out⟩

theorem same_any (A B : Option Addr) (la lb : List UInt8) (ca cb BA BB : Nat) (w : World) (ha : Rd w BA A la) (hb : Rd w BB B lb) :
    Calls Tryd.prog 11 #[.slice A la.length ca, .slice B lb.length cb] w fun e w' => e = .returned (.bool (decide (la = lb))) ∧ w = w' := by
  have h1 := run_str (P := Tryd.prog) ha ca _ _ _ Tryd.underlying22 Tryd.underlying5 Tryd.underlying9
  have h2 := run_str (P := Tryd.prog) hb cb _ _ _ Tryd.underlying22 Tryd.underlying5 Tryd.underlying9
  go_enter Tryd.func11, Tryd.ntmps11
  go_wp2
  go_ret
  refine ⟨?_, rfl⟩
  simp
  rw [Bool.eq_iff_iff]; simp
theorem same_sl (v1 v2 : Value) (la lb : List UInt8) (w : World) (ha : Sl w v1 la) (hb : Sl w v2 lb) :
    Calls Tryd.prog 11 #[v1, v2] w fun e w' => e = .returned (.bool (decide (la = lb))) ∧ w = w' := by
  obtain ⟨A, ca, rfl, _, _, h1⟩ := ha
  obtain ⟨B, cb, rfl, _, _, h2⟩ := hb
  exact same_any A B la lb ca cb _ _ w h1 h2
end Go.Proofs.YtgabcbifefokkaaDoor
