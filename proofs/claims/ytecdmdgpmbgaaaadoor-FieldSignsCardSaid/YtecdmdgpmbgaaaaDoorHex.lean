
/- dig.Hex -/
import Derived.Test.YtecdmdgpmbgaaaaDoorBytes
import Derived.Deep.RegionLaw
import Derived.Deep.DeepMust
import Derived.Deep.RegionHeld3
import Derived.StillTailTactics
namespace Go.Proofs.YtecdmdgpmbgaaaaDoor
open Go.RowKit

def sgn (n : Nat) : UInt8 := if n < 10 then UInt8.ofNat (48 + n) else UInt8.ofNat (87 + n)
def hx (l : List UInt8) : List UInt8 := l.flatMap fun b => [sgn (b.toNat / 16), sgn (b.toNat % 16)]
theorem hx_length (l : List UInt8) : (hx l).length = 2 * l.length := by
  induction l with
  | nil => rfl
  | cons a l ih => simp only [hx, List.flatMap_cons, List.length_append, List.length_cons, List.length_nil] at ih ⊢; omega
theorem take_snoc (l : List UInt8) (k : Nat) (h : k < l.length) : l.take (k + 1) = l.take k ++ [l[k]] := by
  rw [List.take_succ_eq_append_getElem h]
theorem hx_snoc (l : List UInt8) (c : UInt8) : hx (l ++ [c]) = hx l ++ [sgn (c.toNat / 16), sgn (c.toNat % 16)] := by
  simp [hx]

theorem idx_signs (q : Int) (j : Nat) (hq : q = j) (h : j < 16) (W : World) : (Instr.index 9 (.string ⟨#[48, 49, 50, 51, 52, 53, 54, 55, 56, 57, 97, 98, 99, 100, 101, 102]⟩) (.int .u8 q)).run Tryd.prog W = .ok (.int .u8 ((sgn j).toNat : Int)) W := by
  subst hq
  match j, h with
  | 0, _ => rfl | 1, _ => rfl | 2, _ => rfl | 3, _ => rfl | 4, _ => rfl | 5, _ => rfl | 6, _ => rfl | 7, _ => rfl
  | 8, _ => rfl | 9, _ => rfl | 10, _ => rfl | 11, _ => rfl | 12, _ => rfl | 13, _ => rfl | 14, _ => rfl | 15, _ => rfl
  | j + 16, h => exact absurd h (by omega)
theorem idx_hi (b : UInt8) : ∀ W, (Instr.index 9 (.string ⟨#[48, 49, 50, 51, 52, 53, 54, 55, 56, 57, 97, 98, 99, 100, 101, 102]⟩) (.int .u8 ((b.toNat : Int) / 16))).run Tryd.prog W = .ok (.int .u8 ((sgn (b.toNat / 16)).toNat : Int)) W :=
  fun W => idx_signs _ (b.toNat / 16) (by omega) (by have := b.toNat_lt; omega) W
theorem idx_lo (b : UInt8) : ∀ W, (Instr.index 9 (.string ⟨#[48, 49, 50, 51, 52, 53, 54, 55, 56, 57, 97, 98, 99, 100, 101, 102]⟩) (.int .u8 ((b.toNat : Int) % 16))).run Tryd.prog W = .ok (.int .u8 ((sgn (b.toNat % 16)).toNat : Int)) W :=
  fun W => idx_signs _ (b.toNat % 16) (by omega) (by omega) W

theorem hex_any (A : Option Addr) (l : List UInt8) (c : Nat) (w : World) (hl : l.length ≤ 1000000) (hr : Rd w w.heap.size A l) :
    Calls Tryd.prog 49 #[.slice A l.length c] w fun e w' => e = .returned (.string ⟨(hx l).toArray⟩) ∧ Below w.heap.size w w' := by
  obtain ⟨i0, hi, hz0, hz1, hz2⟩ := info_parts info5
  go_enter Tryd.func49, Tryd.ntmps49
  go_wp2_with (at_make; refine wpList_make_own _ rfl _ _ 22 rfl w.heap.size 5 i0 (.int .u8 0) 1 Tryd.underlying22 hi hz0 hz1 _ _ _ (2 * l.length) rfl rfl (by omega) (by rw [hz2]; omega) (by unfold maxLen; omega) (Nat.le_refl _) ?_; intro w1 hown hgrow)
  have hb0 : Below w.heap.size w w1 := (Below.refl _ _).grown hgrow (Nat.le_refl _) (by intro k h; cases h)
  clear hgrow
  go_loopw [3, 12] (fun v i wr => ∃ k : Nat, k ≤ l.length ∧ i = .int .i64 k ∧ Ow wr w.heap.size v (hx (l.take k)) ∧ Below w.heap.size w wr) (fun _ i _ => l.length - (intOf i).toNat)
  case atStart => exact ⟨0, Nat.zero_le _, rfl, hown, hb0⟩
  case round =>
    obtain ⟨k, hk, rfl, hown, hb⟩ := hrel
    by_cases hlt : k < l.length
    · obtain ⟨b, o, rfl, hbB, hc⟩ := hr.at_ hlt
      have hc' := (hb.cell (p := ⟨b, o + k, none⟩) hbB).trans hc
      clear hc
      go_wp2
      have hx1 := idx_hi l[k]
      have hx2 := idx_lo l[k]
      have hand : bits BinOp.and IntKind.u8 (l[k].toNat : Int) 15 = (l[k].toNat : Int) % 16 := u8_and15 _ (Int.natCast_nonneg _) (by have := l[k].toNat_lt; omega)
      have HW := Lib.hid hown
      have HB := Lib.hid hb
      clear hc' hown hb
      have hlen : (hx (l.take k)).length ≤ 2000000 := by rw [hx_length, List.length_take]; omega
      have hsz := HB.out.size
      go_region_law (refine step_app rfl _ (.tmp 16) (.tmp 23) rfl w.heap.size _ _ [sgn (l[k].toNat / 16), sgn (l[k].toNat % 16)] rfl (by exact HW.out.alloc _) ⟨_, 0, none⟩ 2 _ rfl rfl (by exact news2 _ _ _) (by simp only [List.length_cons, List.length_nil]; omega) (by exact le_alloc hsz _) ?_; intro v2 w2 hown2 hgrow2)
      all_goals
        have hb2 := Ow.below (w0 := w) (by exact HW.out.alloc _) (by exact HB.out.drew.alloc hsz _) hgrow2 (by exact le_alloc hsz _)
        rw [← hx_snoc, ← take_snoc l k hlt] at hown2
        have HW2 := Lib.hid hown2
        have HB2 := Lib.hid hb2
        clear hgrow2 hown2 hb2 hand hx1 hx2 hlen HW HB hsz
        go_wp2
        go_roundw
        case rel => exact ⟨k + 1, by omega, by go_num, HW2.out, HB2.out⟩
        case measure => simp [intOf]; omega
    · have hkl : k = l.length := by omega
      rw [hkl, List.take_length] at hown
      have hst : ∀ W, W = wr → (convert 22 9 u3).run Tryd.prog W = .ok (.string ⟨(hx l).toArray⟩) W := by
        intro W hW
        subst hW
        obtain ⟨A', c', hv, _, _, hr'⟩ := hown.sl
        rw [hv]
        exact run_str hr' c' _ _ _ Tryd.underlying22 Tryd.underlying5 Tryd.underlying9
      have hst' := hst wr rfl
      clear hst hkl hown
      have HB := Lib.hid hb
      clear hb
      go_wp2
      go_ret
      exact ⟨rfl, HB.out⟩
end Go.Proofs.YtecdmdgpmbgaaaaDoor
