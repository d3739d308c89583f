
/- sha.ending: what stands behind. -/
import Derived.Test.YtcfncbbdlbdbnaaDoorJoin
namespace Go.Proofs.YtcfncbbdlbdbnaaDoor
open Go.RowKit

def padZ (r : Nat) : Nat := (64 - (r + 9) % 64) % 64
theorem padL_length (r n : Nat) : (padL r n).length = 9 + padZ r := by
  unfold padL be8 padZ
  simp only [List.length_cons, List.length_append, List.length_replicate, List.length_map, List.length_range]
  omega
theorem padL_head (r n : Nat) : (padL r n).getD 0 0 = 128 := rfl
theorem padL_mid (r n j : Nat) (h1 : 1 ≤ j) (h2 : j ≤ padZ r) : (padL r n).getD j 0 = 0 := by
  unfold padL
  obtain ⟨j, rfl⟩ : ∃ i, j = i + 1 := ⟨j - 1, by omega⟩
  rw [List.getD_cons_succ, List.getD_eq_getElem?_getD, List.getElem?_append_left (by rw [List.length_replicate]; unfold padZ at h2; omega), List.getElem?_replicate]
  split <;> rfl
theorem padL_tail (r n k : Nat) (h : k < 8) : (padL r n).getD (8 + padZ r - k) 0 = UInt8.ofNat (8 * n / 2 ^ (8 * k)) := by
  unfold padL
  have e : 8 + padZ r - k = (7 + padZ r - k) + 1 := by omega
  rw [e, List.getD_cons_succ, List.getD_eq_getElem?_getD, List.getElem?_append_right (by rw [List.length_replicate]; unfold padZ; omega), List.length_replicate]
  have e2 : 7 + padZ r - k - (64 - (r + 9) % 64) % 64 = 7 - k := by unfold padZ; omega
  rw [e2]
  unfold be8
  rw [List.getElem?_map, List.getElem?_range (by omega)]
  simp only [Option.map_some, Option.getD_some]
  congr 3
  omega

/-- what stands there behind k of the eight bytes -/
def padK (r n k j : Nat) : UInt8 := if j = 0 then 128 else if 9 + padZ r ≤ j + k then (padL r n).getD j 0 else 0

theorem Rd.ofRow {w : World} {g n : Nat} {t : TypeId} {l : List UInt8} (h : w.rowIs g t n (fun j => .int .u8 ((l.getD j 0).toNat : Int))) (hn : l.length = n) : Rd w w.heap.size (some ⟨g, 0, none⟩) l := fun _ =>
  ⟨g, 0, rfl, h.lt, fun j hj => by
    rw [Nat.zero_add, h.cell (by omega), List.getD_eq_getElem?_getD, List.getElem?_eq_getElem hj]
    rfl⟩
set_option maxRecDepth 100000 in
set_option maxHeartbeats 1000000 in
theorem ending_any (r n : Nat) (w : World) (hr : r ≤ 1000) (hn : n ≤ 1125899906842624) :
    Calls Tryd.prog 56 #[.int .i64 (r : Int), .int .i64 (n : Int)] w fun e w' => Ans1 w.heap.size w' e (padL r n) (padL r n).length ∧ Below w.heap.size w w' := by
  obtain ⟨i0, hi, hz0, hz1, hz2⟩ := info_parts info5
  obtain ⟨z, hz⟩ : ∃ z, z = padZ r := ⟨_, rfl⟩
  have hzl : z < 64 := by rw [hz]; unfold padZ; omega
  have hzi : (64 - ((r : Int) + 9) % 64) % 64 = (z : Int) := by rw [hz]; unfold padZ; omega
  have HZ := Lib.hid hz
  rw [padL_length, ← hz]
  clear hz
  go_enter Tryd.func56, Tryd.ntmps56
  have hrow := World.rowIs_made w (.int .u8 0) (9 + z) 5
  have hb0 : Below w.heap.size w (w.alloc (.cells (madeCells #[.int .u8 0] (9 + z)) 5)) := (Below.refl _ _).alloc (Nat.le_refl _) _
  have c0 := hrow.cell (i := 0) (by omega)
  have f0 := hrow.frozen 0
  have HB0 := Lib.hid hb0
  have HR0 := Lib.hid hrow
  clear hb0 hrow
  go_wp2_with (at_make; refine wpList_make_row w rfl (.tmp 17) (.tmp 17) 25 rfl 5 i0 (.int .u8 0) Tryd.underlying25 hi hz0 hz1 rfl .i64 .i64 (9 + z) rfl rfl (by rw [hz2]; omega) (by omega) ?_; generalize w.alloc (.cells (madeCells #[.int .u8 0] (9 + z)) 5) = W1 at *)
  go_loopw [24] (fun i wr => ∃ k : Nat, k ≤ 8 ∧ i = .int .i64 k ∧ wr.rowIs w.heap.size 5 (9 + z) (fun j => .int .u8 ((padK r n k j).toNat : Int)) ∧ Below w.heap.size w wr) (fun i _ => 8 - (intOf i).toNat)
  case atStart => exact ⟨0, by omega, rfl, (HR0.out.set 0 _).congr (fun j hj => by
      unfold padK
      by_cases h0 : j = 0
      · rw [if_pos h0, if_pos h0]; rfl
      · rw [if_neg h0, if_neg h0, if_neg (by rw [← HZ.out]; omega)]; rfl), HB0.out.setCell (Nat.le_refl _) _⟩
  case round =>
    obtain ⟨k, hk, rfl, hrow, hbel⟩ := hrel
    have HR := Lib.hid hrow
    have HB := Lib.hid hbel
    clear hrow hbel HR0 HB0 c0 f0
    by_cases hlt : k < 8
    · obtain ⟨p, hp⟩ : ∃ p, p = 8 + z - k := ⟨_, rfl⟩
      have c1 := HR.out.cell (i := p) (by omega)
      have f1 := HR.out.frozen p
      have hp1 : (p : Int) < 9 + (z : Int) := by omega
      have hp2 : 9 + (z : Int) - 1 - (k : Int) = (p : Int) := by omega
      have hp3 : 8 + (z : Int) - (k : Int) = (p : Int) := by omega
      have HP := Lib.hid hp
      clear hp
      go_wp2
      go_roundw
      case rel => exact ⟨k + 1, by omega, by go_num, (HR.out.set p _).congr (fun j hj => by
          have hz2 := HZ.out
          have hp := HP.out
          by_cases hjp : j = p
          · rw [if_pos hjp]
            have e : padK r n (k + 1) j = UInt8.ofNat (8 * n / 2 ^ (8 * k)) := by
              unfold padK
              rw [if_neg (by omega), if_pos (by omega), hjp, hp, hz2]
              exact padL_tail r n k hlt
            rw [e, UInt8.toNat_ofNat']
            congr 1
          · rw [if_neg hjp]
            have e : padK r n (k + 1) j = padK r n k j := by
              unfold padK
              by_cases h0 : j = 0
              · rw [if_pos h0, if_pos h0]
              · rw [if_neg h0, if_neg h0]
                by_cases h1 : 9 + padZ r ≤ j + k
                · rw [if_pos h1, if_pos (by omega)]
                · rw [if_neg h1, if_neg (by omega)]
            rw [e]), HB.out.setCell (Nat.le_refl _) _⟩
      case measure => simp [intOf]; omega
    · have hk8 : k = 8 := by omega
      have hrow := HR.out.congr (g := fun j => .int .u8 (((padL r n).getD j 0).toNat : Int)) (fun j hj => by
        have hz2 := HZ.out
        have e : padK r n k j = (padL r n).getD j 0 := by
          unfold padK
          rw [hk8]
          by_cases h0 : j = 0
          · rw [if_pos h0, h0]; rfl
          · rw [if_neg h0]
            by_cases h1 : 9 + padZ r ≤ j + 8
            · rw [if_pos h1]
            · rw [if_neg h1, padL_mid r n j (by omega) (by omega)]
        rw [e])
      have HRd := Lib.hid (Rd.ofRow hrow (by rw [padL_length, ← HZ.out]))
      clear hrow hk8
      go_wp2
      go_ret
      exact ⟨⟨_, _, rfl, Nat.le_refl _, by omega, HRd.out, fun p hp => by cases hp; exact ⟨Nat.le_refl _, HR.out.lt⟩⟩, HB.out⟩
end Go.Proofs.YtcfncbbdlbdbnaaDoor
