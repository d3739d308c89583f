
/- dig.pack at figures, dig.Bcd: in a cut that holds no dig.Unhex. -/
import Derived.Test.YtecdmdgpmbgaaaaDoorPack
namespace Go.Proofs.YtecdmdgpmbgaaaaDoor
open Go.RowKit

set_option maxHeartbeats 400000 in
theorem pack5_any (g : UInt8 → Option Nat) (hg : Worth g)
    (hyes : ∀ (c : UInt8) (v : Nat) (W : World), g c = some v → Calls Tryd.prog 48 #[.int .i32 (c.toNat : Int)] W fun e W' => e = .returned (.tuple #[.int .u8 v, .bool true]) ∧ W = W')
    (hno : ∀ (r : Int) (W : World), 0 ≤ r → r ≤ 2147483647 → (∀ c : UInt8, (c.toNat : Int) = r → g c = none) → Calls Tryd.prog 48 #[.int .i32 r] W fun e W' => e = .returned (.tuple #[.int .u8 0, .bool false]) ∧ W = W')
    (s : ByteArray) (W : World) (hs : s.size ≤ 1000000) :
    Calls Tryd.prog 47 #[.string s, .func (.func 48) #[] #[]] W fun e W' => PackR g s.data.toList W' e ∧ Below W.heap.size W W' := by
  have hmk := run_make_row' (P := Tryd.prog) 22 5 (.int .u8 0) 1 Tryd.underlying22 info5 rfl .i64 .i64 ((s.size + 1) / 2) (by omega) (by omega)
  rw [show (((s.size + 1) / 2 : Nat) : Int) = ((s.size : Int) + 1) / 2 from by omega] at hmk
  have HY := Lib.hid hyes
  have HN := Lib.hid hno
  clear hyes hno
  go_enter Tryd.func47, Tryd.ntmps47
  go_wp2
  clear hmk
  have hrow : ((W.alloc (.cells (madeCells #[.int .u8 0] ((s.size + 1) / 2)) 5)).iter s 0).rowIs W.heap.size 5 ((s.size + 1) / 2) (rowP (hvF g s.data.toList) (s.size % 2)) := by
    refine ((World.rowIs_made W (.int .u8 0) _ 5).alloc _).congr (fun i hi => ?_)
    unfold rowP cellP
    rw [if_neg (by omega)]
    split
    · unfold hvF; rw [if_pos (by rw [bytes_len]; omega)]; rfl
    · rfl
  have hit : ((W.alloc (.cells (madeCells #[.int .u8 0] ((s.size + 1) / 2)) 5)).iter s 0).heap[W.heap.size + 1]? = some (.stringIter s 0) := by
    have := World.iter_heap (W.alloc (.cells (madeCells #[.int .u8 0] ((s.size + 1) / 2)) 5)) s 0
    rwa [World.size_alloc] at this
  have hbel : Below W.heap.size W ((W.alloc (.cells (madeCells #[.int .u8 0] ((s.size + 1) / 2)) 5)).iter s 0) := ((Below.refl _ _).alloc (Nat.le_refl _) _).alloc (by rw [World.size_alloc]; omega) _
  generalize (W.alloc (.cells (madeCells #[.int .u8 0] ((s.size + 1) / 2)) 5)).iter s 0 = W0 at hrow hit hbel
  go_loopw [7] (fun t wr => ∃ k : Nat, k ≤ s.size ∧ t = .int .i64 ((s.size % 2 + k : Nat) : Int) ∧ wr.heap[W.heap.size + 1]? = some (.stringIter s k) ∧
      wr.rowIs W.heap.size 5 ((s.size + 1) / 2) (rowP (hvF g s.data.toList) (s.size % 2 + k)) ∧ Below W.heap.size W wr ∧ Hid (∀ j (h : j < s.size), j < k → (g s[j]).isSome = true)) (fun _ wr => s.size - wr.iterPos (W.heap.size + 1))
  case atStart => exact ⟨0, Nat.zero_le _, by simp, hit, hrow, hbel, Lib.hid (fun j h hj => absurd hj (by omega))⟩
  case round =>
    obtain ⟨k, hk, rfl, hit, hrow, hbel, hall⟩ := hrel
    by_cases hlt : k < s.size
    · cases hgk : g s[k] with
      | some v =>
        have hv := hg _ _ hgk
        have hnx : ∀ ty, (Instr.next (.pointer (some ⟨W.heap.size + 1, 0, none⟩)) true ty).run Tryd.prog wr = _ := fun ty => Lib.run_next_ascii_at wr (W.heap.size + 1) s k ty hit hlt hv.2
        have hi2 := Lib.iterAt_heap wr (W.heap.size + 1) s k (k + 1) hit
        have hr2 := hrow.of_block (Lib.iterAt_other wr (W.heap.size + 1) W.heap.size s (k + 1) (by omega))
        have hb2 := Lib.below_iterAt hbel (show W.heap.size ≤ W.heap.size + 1 by omega) s (k + 1)
        have hvk : hvF g s.data.toList (s.size % 2 + k) = v := by
          unfold hvF
          rw [bytes_len, if_neg (by omega), show s.size % 2 + k - s.size % 2 = k by omega, getD_at _ _ (by rw [bytes_len]; exact hlt), get_bytes s k hlt, hgk]
          rfl
        have hlt16 := hvF_lt g hg s.data.toList
        generalize hT : s.size % 2 + k = T at *
        have hTn : T / 2 < (s.size + 1) / 2 := by omega
        have hc := hr2.cell (i := T / 2) hTn
        have hf := hr2.frozen (T / 2)
        have hstep := fun p v' => rowP_step (hvF g s.data.toList) T p v'
        have hx16 := cellP_half _ hlt16 T
        have hor := or_half (cellP (hvF g s.data.toList) T (T / 2)) v hx16 hv.1
        unfold rowP at hc
        generalize hX : cellP (hvF g s.data.toList) T (T / 2) = X at *
        have hit0 := Lib.hid hit
        have HR := Lib.hid hr2
        have HI := Lib.hid hi2
        have HB := Lib.hid hb2
        have HT := Lib.hid hT
        have HX := Lib.hid hX
        have HG := Lib.hid hgk
        have HV := Lib.hid hvk
        have HS := Lib.hid hstep
        generalize wr.iterAt (W.heap.size + 1) s (k + 1) = wr2 at *
        clear hr2 hi2 hb2 hT hX hgk hvk hstep hlt16 hrow hit hbel
        go_wp2_with fail
        refine (HY.out _ v _ HG.out).mono ?_
        rintro e w' ⟨rfl, rfl⟩
        go_wp2
        have et : s.size % 2 + (k + 1) = T + 1 := by have := HT.out; omega
        go_roundw
        case rel =>
          refine ⟨k + 1, by omega, by rw [et]; go_num, (Below.heap_setCell _ _ _ _ (by simp)).trans HI.out, ?_, HB.out.setCell (Nat.le_refl _) _, Lib.hid (fun j h hj => ?_)⟩
          · rw [et]
            refine (HR.out.set (T / 2) _).congr (fun p hp => HS.out p _ ?_)
            rw [HV.out]
            omega
          · by_cases hjk : j = k
            · subst hjk; rw [HG.out]; rfl
            · exact hall.out j h (by omega)
        case measure =>
          have e1 := iterPos_of ((Below.heap_setCell wr2 ⟨W.heap.size, T / 2, none⟩ (Value.int IntKind.u8 (16 * (X : Int) + v)) _ (by simp)).trans HI.out)
          have e2 := iterPos_of hit0.out
          rw [e2, e1]
          omega
      | none =>
        have hno := rune_none g hg s k hlt hgk
        have hle := decode_le s k
        have hnx : ∀ ty, (Instr.next (.pointer (some ⟨W.heap.size + 1, 0, none⟩)) true ty).run Tryd.prog wr = _ := fun ty => Lib.run_next_any_at wr (W.heap.size + 1) s k ty hit hlt
        have hb2 := Lib.below_iterAt hbel (show W.heap.size ≤ W.heap.size + 1 by omega) s (k + (Utf8.decode s k).2)
        have hN := okL_no g s.data.toList k (by rw [bytes_len]; exact hlt) (by rw [get_bytes s k hlt]; exact hgk)
        have HC := Lib.hid (fun W => HN.out ((Utf8.decode s k).1 : Int) W (by omega) (by omega) hno)
        have HB := Lib.hid hb2
        have HO := Lib.hid hN
        generalize wr.iterAt (W.heap.size + 1) s (k + (Utf8.decode s k).2) = wr2 at *
        generalize (Utf8.decode s k).1 = r at *
        clear hno hb2 hN hgk hrow hit hbel
        go_wp2_with fail
        refine (HC.out _).mono ?_
        rintro e w' ⟨rfl, rfl⟩
        go_wp2
        go_ret2
        exact ⟨by unfold PackR; rw [if_neg (by rw [HO.out]; simp)]; rfl, HB.out⟩
    · have hkl : k = s.size := by omega
      have hok : okL g s.data.toList = true := by
        unfold okL
        rw [List.all_eq_true]
        intro c hc
        obtain ⟨j, hj, rfl⟩ := List.getElem_of_mem hc
        rw [bytes_len] at hj
        have := hall.out j hj (by omega)
        rwa [get_bytes s j hj]
      have hsl : Sl wr (.slice (some ⟨W.heap.size, 0, none⟩) ((s.size + 1) / 2) ((s.size + 1) / 2)) (packL g s.data.toList) := by
        refine Sl.row hrow (by rw [packL_length, bytes_len]) (by omega) (fun j hj => ?_)
        rw [packL_length, bytes_len] at hj
        rw [packL_get, pkAt_nat _ (hvF_lt g hg _)]
        unfold rowP cellP
        rw [if_pos (by omega)]
      have HS := Lib.hid hsl
      have HO := Lib.hid hok
      have HB := Lib.hid hbel
      have hnx : ∀ ty, (Instr.next (.pointer (some ⟨W.heap.size + 1, 0, none⟩)) true ty).run Tryd.prog wr = _ := fun ty => Lib.run_next_end_at wr (W.heap.size + 1) s k ty hit hlt
      clear hsl hok hbel hkl hit hrow hall HY HN
      go_wp2
      go_ret2
      exact ⟨by unfold PackR; rw [if_pos HO.out]; exact ⟨_, rfl, HS.out⟩, HB.out⟩

theorem bcd5_any (s : ByteArray) (W : World) (hs : s.size ≤ 1000000) :
    Calls Tryd.prog 40 #[.string s] W fun e W' => PackR gFig s.data.toList W' e ∧ Below W.heap.size W W' := by
  go_enter Tryd.func40, Tryd.ntmps40
  go_wp2_with fail
  refine (pack5_any gFig gFig_w ?_ ?_ s W hs).mono ?_
  · intro c v W h
    unfold gFig at h
    split at h <;> simp at h
    subst h
    refine (figure_yes (c.toNat : Int) W (by omega) (by omega)).mono ?_
    rintro e w' ⟨rfl, rfl⟩
    exact ⟨by rw [show (c.toNat : Int) - 48 = ((c.toNat - 48 : Nat) : Int) by omega], rfl⟩
  · intro r W h0 h1 h
    refine figure_no r W ?_
    by_cases a : 48 ≤ r
    · by_cases b : r ≤ 57
      · have := h (UInt8.ofNat r.toNat) (by rw [UInt8.toNat_ofNat']; omega)
        unfold gFig at this
        rw [UInt8.toNat_ofNat', if_pos (by omega)] at this
        cases this
      · omega
    · omega
  · rintro e w' ⟨h, hb⟩
    unfold PackR at h
    split at h
    · obtain ⟨v, rfl, hsl⟩ := h
      rename_i ho
      have HO := Lib.hid ho
      have HS := Lib.hid hsl
      have HB := Lib.hid hb
      clear ho hsl hb
      go_wp2
      go_ret2
      exact ⟨by unfold PackR; rw [if_pos HO.out]; exact ⟨_, rfl, HS.out⟩, HB.out⟩
    · subst h
      rename_i ho
      have HO := Lib.hid ho
      have HB := Lib.hid hb
      clear ho hb
      go_wp2
      go_ret2
      exact ⟨by unfold PackR; rw [if_neg HO.out]; rfl, HB.out⟩
end Go.Proofs.YtecdmdgpmbgaaaaDoor
