/- shown (mac): the document's examples. -/
import Derived.Test.YtgabcbifefokkaaDoorDerB
import Derived.Test.YtgabcbifefokkaaDoorMacF
import Derived.Test.YtgabcbifefokkaaDoorDoc
import Derived.Lib.SlBytesConst
namespace Go.Proofs.YtgabcbifefokkaaDoor
open Go.RowKit

def key20 : List UInt8 := List.replicate 20 11
def hiThere : List UInt8 := [72, 105, 32, 84, 104, 101, 114, 101]
theorem hx_tag : (hx (tagF key20 hiThere)).toArray = #[98, 48, 51, 52, 52, 99, 54, 49, 100, 56, 100, 98, 51, 56, 53, 51, 53, 99, 97, 56, 97, 102, 99, 101, 97, 102, 48, 98, 102, 49, 50, 98, 56, 56, 49, 100, 99, 50, 48, 48, 99, 57, 56, 51, 51, 100, 97, 55, 50, 54, 101, 57, 51, 55, 54, 99, 50, 101, 51, 50, 99, 102, 102, 55] := by
  kernel_rfl
theorem blk12 : blkK [1, 2] = 1 :: 2 :: List.replicate 62 0 := by kernel_rfl
def k20at (k j : Nat) : Value := .int .u8 (if j < k then 11 else 0)
theorem k20_next (k j : Nat) : k20at (k + 1) j = if j = k then .int .u8 11 else k20at k j := by
  unfold k20at
  by_cases h : j = k
  · subst h; rw [if_pos (by omega), if_pos rfl]
  · rw [if_neg h]
    by_cases h2 : j < k
    · rw [if_pos h2, if_pos (by omega)]
    · rw [if_neg h2, if_neg (by omega)]
theorem k20_all : ∀ j (hj : j < key20.length), k20at 20 j = .int .u8 (key20[j].toNat : Int) := by
  intro j hj
  have h2 : key20[j] = 11 := List.getElem_replicate hj
  have h3 : j < 20 := by simpa [key20] using hj
  unfold k20at
  rw [h2, if_pos h3]
  rfl
theorem mat1 {W : World} {g g1 : Nat} (h1 : W.heap[g]? = some (.cells #[.slice (some ⟨g1, 0, none⟩) 1 1] 22 (0, 0))) (h2 : W.heap[g1]? = some (.cells #[.int .u8 1] 5 (0, 0))) : Mat W W.heap.size (some ⟨g, 0, none⟩) [[1]] := by
  intro _
  refine ⟨g, 0, rfl, (Array.getElem?_eq_some_iff.1 h1).1, fun j hj => ?_⟩
  have hj0 : j = 0 := by simpa using hj
  subst hj0
  exact ⟨some ⟨g1, 0, none⟩, 1, (cell_of_row _ _ _ _ _ _ h1).trans rfl, Nat.le_refl _, by omega, Rd.block (l := [1]) h2⟩

theorem kcells {W : World} {g : Nat} (h : W.heap[g]? = some (.cells (cs (blkK [1, 2])).toArray 5 (0, 0))) : W.cell? ⟨g, 0, none⟩ = some (.int .u8 1) ∧ W.cell? ⟨g, 1, none⟩ = some (.int .u8 2) ∧ W.cell? ⟨g, 63, none⟩ = some (.int .u8 0) := by
  rw [blk12] at h
  exact ⟨(cell_of_row _ _ _ _ _ _ h).trans rfl, (cell_of_row _ _ _ _ _ _ h).trans rfl, (cell_of_row _ _ _ _ _ _ h).trans rfl⟩
theorem same_kk (g g' : Nat) (W : World) (h1 : Rd W W.heap.size (some ⟨g, 0, none⟩) (blkK [1, 2])) (h2 : Rd W W.heap.size (some ⟨g', 0, none⟩) (blkK [1, 2])) :
    Calls Tryd.prog 18 #[.slice (some ⟨g, 0, none⟩) 64 64, .slice (some ⟨g', 0, none⟩) 64 64] W fun e w' => e = .returned (.bool true) ∧ W = w' := by
  have h := macSame_any (some ⟨g, 0, none⟩) (some ⟨g', 0, none⟩) (blkK [1, 2]) (blkK [1, 2]) 64 64 _ _ W h1 h2 (by rw [blkK_length]; omega) (by rw [blkK_length]; omega)
  rw [blkK_length, decide_eq_true rfl] at h
  exact h
theorem same_k20 (g g' : Nat) (W : World) (h1 : Rd W W.heap.size (some ⟨g, 0, none⟩) (blkK [1, 2])) (h2 : Rd W W.heap.size (some ⟨g', 0, none⟩) key20) :
    Calls Tryd.prog 18 #[.slice (some ⟨g, 0, none⟩) 64 64, .slice (some ⟨g', 0, none⟩) 20 20] W fun e w' => e = .returned (.bool false) ∧ W = w' := by
  have h := macSame_any (some ⟨g, 0, none⟩) (some ⟨g', 0, none⟩) (blkK [1, 2]) key20 64 20 _ _ W h1 h2 (by rw [blkK_length]; omega) (by simp [key20])
  have e1 : key20.length = 20 := rfl
  have e : ¬ blkK [1, 2] = key20 := fun h => by have := congrArg List.length h; rw [blkK_length, e1] at this; omega
  rw [blkK_length, decide_eq_false e, e1] at h
  exact h
theorem hex32 (A : Option Addr) (c : Nat) (l : List UInt8) (hl : l.length = 32) (W : World) (hr : Rd W W.heap.size A l) : Calls Tryd.prog 25 #[.slice A 32 c] W fun e w' => e = .returned (.string ⟨(hx l).toArray⟩) ∧ Below W.heap.size W w' := by
  have h := refHex_any A l c W (by omega) hr
  rw [hl] at h
  exact h

set_option maxRecDepth 100000 in
set_option maxHeartbeats 4000000 in
theorem shown3_any (w : World) (hk : Ks w) : Calls Tryd.prog 10 #[] w fun e w' => e = .returned (.bool true) ∧ Below w.heap.size w w' := by
  obtain ⟨i0, hi, hz0, hz1, hz2⟩ := info_parts info5
  have KB := Lib.hid (fun w' (h : Below w.heap.size w w') => Ks.call hk h)
  have HR0 := Lib.hid (World.rowIs_made w (.int .u8 0) 20 5)
  have HB0 := Lib.hid (show Below w.heap.size w (w.alloc (.cells (madeCells #[.int .u8 0] 20) 5)) from (Below.refl _ _).alloc (Nat.le_refl _) _)
  clear hk
  go_enter Tryd.func10, Tryd.ntmps10
  go_wp2_with (at_make; refine wpList_make_row w rfl _ _ 22 rfl 5 i0 (.int .u8 0) Tryd.underlying22 hi hz0 hz1 rfl .i64 .i64 20 rfl rfl (by rw [hz2]; omega) (by omega) ?_; generalize w.alloc (.cells (madeCells #[.int .u8 0] 20) 5) = W1 at *)
  go_loopw [2] (fun v wr => ∃ k : Nat, k ≤ 20 ∧ v = .int .i64 k ∧ wr.rowIs w.heap.size 5 20 (k20at k) ∧ Below w.heap.size w wr) (fun v _ => 20 - (intOf v).toNat)
  case atStart => exact ⟨0, by omega, rfl, HR0.out.congr (fun j _ => by unfold k20at; rw [if_neg (by omega)]), HB0.out⟩
  case round =>
    clear HR0 HB0
    obtain ⟨k, hk, rfl, hrow, hbel⟩ := hrel
    have HR := Lib.hid hrow
    have HB := Lib.hid hbel
    clear hrow hbel
    by_cases hlt : k < 20
    · have d2 := HR.out.frozen k
      have c2 := HR.out.cell (i := k) hlt
      have hlti : (k : Int) < 20 := by omega
      have hk0 : (0 : Int) ≤ (k : Int) := Int.natCast_nonneg _
      have HS := Lib.hid (World.rowIs.congr (g := k20at (k + 1)) (HR.out.set k (.int .u8 11)) (fun j _ => by rw [k20_next]))
      go_wp2
      go_roundw
      case rel => exact ⟨k + 1, by omega, by go_num, HS.out, HB.out.setCell (Nat.le_refl _) _⟩
      case measure => simp [intOf]; omega
    · have hk8 : k = 20 := by omega
      subst hk8
      have hkey := row_cs HR.out (show key20.length = 20 from rfl) k20_all
      obtain ⟨wo, hwo⟩ : ∃ x, x = wr := ⟨_, rfl⟩
      rw [← hwo] at HB hkey
      rw [← hwo]
      have HKEY := Lib.hid hkey
      clear hwo HR hkey
      obtain ⟨g, hg⟩ : ∃ g, g = w.heap.size := ⟨_, rfl⟩
      have HG := Lib.hid hg
      rw [← hg] at HKEY ⊢
      clear hg
      have C1 := Lib.hid (fun g' W h1 h2 => show Calls Tryd.prog 12 #[.slice (some ⟨g', 0, none⟩) 2 2] W fun e w' => AnsK W.heap.size w' e (blkK [1, 2]) ∧ Below W.heap.size W w' from macBlock_any (some ⟨g', 0, none⟩) [1, 2] 2 W (by simp) (by simp) h1 h2)
      have C2 := Lib.hid (fun P W h1 h2 h3 => show Calls Tryd.prog 20 #[.slice (some ⟨g, 0, none⟩) 20 20, .string ⟨#[97]⟩, .slice (some ⟨P, 0, none⟩) 1 1] W fun e w' => Ans w' e (tagF key20 (toldF [97] [[1]])) 32 (.int .i64 0) ∧ Below W.heap.size W w' from derive_ok (some ⟨g, 0, none⟩) (some ⟨P, 0, none⟩) key20 [[1]] 20 1 ⟨#[97]⟩ W (by simp [key20]) (by simp [key20]) (by decide) (by simp) (by decide) h1 h2 h3)
      have C3 := Lib.hid (fun g' W h1 h2 h3 => show Calls Tryd.prog 14 #[.slice (some ⟨g, 0, none⟩) 20 20, .slice (some ⟨g', 0, none⟩) 8 8] W fun e w' => AnsB w' e (tagF key20 hiThere) 32 ∧ Below W.heap.size W w' from tag_any (some ⟨g, 0, none⟩) (some ⟨g', 0, none⟩) key20 hiThere 20 8 W (by simp [key20]) (by decide) (by simp [key20]) (by decide) h1 h2 h3)
      have C4 := Lib.hid (fun W h1 h2 => show Calls Tryd.prog 16 #[.slice (some ⟨g, 0, none⟩) 20 20] W fun e w' => AnsB w' e (kcvF key20) 3 ∧ Below W.heap.size W w' from kcv_any (some ⟨g, 0, none⟩) key20 20 W (by simp [key20]) (by simp [key20]) h1 h2)
      have R20 := Lib.hid (fun w' (h : Below wo.heap.size wo w') => Rd.block (old_below HKEY.out h (Nat.le_refl _)))
      have KBo := Lib.hid (fun w' (h : Below wo.heap.size wo w') => KB.out w' (HB.out.trans (h.mono HB.out.size)))
      have HA1 := Lib.hid (Rd.block (l := [1, 2]) (heap_alloc_new wo (.cells #[.int .u8 1, .int .u8 2] 5 (0, 0))))
      have HB1 := Lib.hid ((Below.refl wo.heap.size wo).alloc (Nat.le_refl _) (.cells #[.int .u8 1, .int .u8 2] 5 (0, 0)))
      clear KB
      go_wp2_with fail
      refine (C1.out _ _ HA1.out (KBo.out _ HB1.out)).mono ?_
      rintro e w2 ⟨⟨g2, rfl, h1, h2⟩, hb2⟩
      have HG2 := Lib.hid h1
      have HB2 := Lib.hid (bel_call HB1.out hb2 HB1.out.size)
      clear h1 h2 hb2 HA1 HB1 C1
      obtain ⟨q1, q2, q3, q4⟩ := alloc2 w2 (.cells #[.int .u8 1] 5 (0, 0)) (.cells #[.slice (some ⟨w2.heap.size, 0, none⟩) 1 1] 22 (0, 0))
      have HM2 := Lib.hid (mat1 q2 q1)
      have HB3 := Lib.hid (bel_call HB2.out q4 HB2.out.size)
      have HG3 := Lib.hid (old_below HG2.out q4 (Nat.le_refl _))
      clear q1 q2 q3 q4 HG2
      go_wp2_with fail
      refine (C2.out (w2.heap.size + 1) _ (R20.out _ HB3.out) HM2.out (KBo.out _ HB3.out)).mono ?_
      rintro e w4 ⟨⟨A4, c4, rfl, h41, h42, h43⟩, hb4⟩
      have HG4 := Lib.hid (old_below HG3.out hb4 (Nat.le_refl _))
      have HB4 := Lib.hid (bel_call HB3.out hb4 HB3.out.size)
      clear hb4 h43 HG3 HB3 HM2 C2 HB2
      have hconv := Lib.run_convert_bytes_const (P := Tryd.prog) w4 22 5 #[.int .u8 72, .int .u8 105, .int .u8 32, .int .u8 84, .int .u8 104, .int .u8 101, .int .u8 114, .int .u8 101] 8 8 Tryd.underlying22 Tryd.underlying5
      have hq : (w4.alloc (.cells #[.int .u8 72, .int .u8 105, .int .u8 32, .int .u8 84, .int .u8 104, .int .u8 101, .int .u8 114, .int .u8 101] 5 (8, 9))).heap[w4.heap.size]? = some (.cells (cs hiThere).toArray 5 (8, 9)) := heap_alloc_new w4 _
      have hb5 : Below w4.heap.size w4 (w4.alloc (.cells #[.int .u8 72, .int .u8 105, .int .u8 32, .int .u8 84, .int .u8 104, .int .u8 101, .int .u8 114, .int .u8 101] 5 (8, 9))) := (Below.refl _ _).alloc (Nat.le_refl _) _
      have HR5 := Lib.hid (Rd.block hq)
      have HB5 := Lib.hid (bel_call HB4.out hb5 HB4.out.size)
      have HG5 := Lib.hid (old_below HG4.out hb5 (Nat.le_refl _))
      clear hq hb5 HG4 HB4
      go_wp2_with fail
      refine (C3.out _ _ (R20.out _ HB5.out) HR5.out (KBo.out _ HB5.out)).mono ?_
      rintro e w6 ⟨⟨A6, c6, rfl, h61, h62, h63⟩, hb6⟩
      have HG6 := Lib.hid (old_below HG5.out hb6 (Nat.le_refl _))
      have HB6 := Lib.hid (bel_call HB5.out hb6 HB5.out.size)
      have HR6 := Lib.hid h63
      clear hb6 h63 HG5 HB5 HR5 C3 hconv
      go_wp2_with fail
      refine (hex32 A6 c6 _ (tagF_length _ _) _ HR6.out).mono ?_
      rintro e w7 ⟨rfl, hb7⟩
      have hg7 := old_below HG6.out hb7 (Nat.le_refl _)
      have HB7 := Lib.hid (bel_call HB6.out hb7 HB6.out.size)
      obtain ⟨k0, k1, k63⟩ := kcells hg7
      have HG7 := Lib.hid hg7
      clear hb7 hg7 HG6 HB6 HR6
      rw [hx_tag]
      go_wp2_with fail
      refine (C4.out _ (R20.out _ HB7.out) (KBo.out _ HB7.out)).mono ?_
      rintro e w8 ⟨⟨A8, c8, rfl, h81, h82, h83⟩, hb8⟩
      have HG8 := Lib.hid (Rd.block (old_below HG7.out hb8 (Nat.le_refl _)))
      have HB8 := Lib.hid (bel_call HB7.out hb8 HB7.out.size)
      clear hb8 h83 HG7 HB7 C4 k0 k1 k63
      go_wp2_with fail
      refine (same_kk g2 g2 _ HG8.out HG8.out).mono ?_
      rintro e w9 ⟨rfl, rfl⟩
      go_wp2_with fail
      refine (same_k20 g2 g _ HG8.out (R20.out _ HB8.out)).mono ?_
      rintro e w9 ⟨rfl, rfl⟩
      go_wp2_with fail
      go_ret
      exact ⟨rfl, HB.out.trans (HB8.out.mono HB.out.size)⟩
end Go.Proofs.YtgabcbifefokkaaDoor
