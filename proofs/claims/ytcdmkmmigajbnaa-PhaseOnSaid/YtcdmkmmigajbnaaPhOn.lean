
/- PhaseOn's walk. -/
import Derived.Test.YtcdmkmmigajbnaaJ07
namespace Go.Proofs.Ytcdmkmmigajbnaa
open Go.RowKit

set_option maxRecDepth 100000 in
set_option maxHeartbeats 4000000 in
theorem phaseOn_walk (p : Int) (W : World) (hp : B64p p) (hT : Tph W) :
    Calls Try.prog 8 #[.int .i64 p] W fun e W' => e = .returned (.bool true) ∧ Below W.heap.size W W' := by
  have HT := Lib.hid hT
  clear hT
  have C0 := Lib.hid (fun w hT => pRun_any p (some ⟨w.heap.size, 0, none⟩) [0, 1, 4, 5] 4 (w.alloc (.cells #[.int .i64 0, .int .i64 1, .int .i64 4, .int .i64 5] 3)) hT hp (by decide) (by decide) (by unfold I64s; decide) (rdi_made w [0, 1, 4, 5]))
  rw [show ([0, 1, 4, 5] : List Int).length = 4 from rfl] at C0
  have C1 := Lib.hid (fun w hT => pRun_any p (some ⟨w.heap.size, 0, none⟩) [2, 3, 4, 9] 4 (w.alloc (.cells #[.int .i64 2, .int .i64 3, .int .i64 4, .int .i64 9] 3)) hT hp (by decide) (by decide) (by unfold I64s; decide) (rdi_made w [2, 3, 4, 9]))
  rw [show ([2, 3, 4, 9] : List Int).length = 4 from rfl] at C1
  have C2 := Lib.hid (fun w hT => pRun_any p (some ⟨w.heap.size, 0, none⟩) [0, 9] 2 (w.alloc (.cells #[.int .i64 0, .int .i64 9] 3)) hT hp (by decide) (by decide) (by unfold I64s; decide) (rdi_made w [0, 9]))
  rw [show ([0, 9] : List Int).length = 2 from rfl] at C2
  have q0 : (p == p) = true := by simp
  by_cases h0 : 0 ≤ p
  · by_cases h6 : p ≤ 6
    · obtain ⟨r0, r1, r2⟩ := run_on ⟨h0, h6⟩
      rw [r0] at C0
      rw [r1] at C1
      rw [r2] at C2
      clear r0 r1 r2 hp
      have HB := Lib.hid (Below.refl W.heap.size W)
      go_enter Try.func8, Try.ntmps8
      go_wp2_with fail
      refine (shown14_any _ (HT.out.below HB.out)).mono ?_
      rintro e w1 ⟨rfl, hb⟩
      have nHB := Lib.hid (belG HB.out hb HB.out.size)
      clear hb
      clear HB 
      have HB := nHB
      clear nHB 
      go_wp2_with fail
      have hn := HB.out.alloc HB.out.size (.cells #[.int .i64 0, .int .i64 1, .int .i64 4, .int .i64 5] 3)
      have ha := (Below.refl w1.heap.size w1).alloc (Nat.le_refl _) (.cells #[.int .i64 0, .int .i64 1, .int .i64 4, .int .i64 5] 3)
      refine (C0.out w1 (HT.out.below (HB.out.alloc HB.out.size _))).mono ?_
      rintro e w2 ⟨rfl, hb⟩
      have nHB := Lib.hid (belG hn hb hn.size)
      have hb2 := belG ha hb ha.size
      clear hn ha
      clear hb hb2
      clear HB 
      have HB := nHB
      clear nHB 
      go_wp2_with fail
      have hn := HB.out.alloc HB.out.size (.cells #[.int .i64 2, .int .i64 3, .int .i64 4, .int .i64 9] 3)
      have ha := (Below.refl w2.heap.size w2).alloc (Nat.le_refl _) (.cells #[.int .i64 2, .int .i64 3, .int .i64 4, .int .i64 9] 3)
      refine (C1.out w2 (HT.out.below (HB.out.alloc HB.out.size _))).mono ?_
      rintro e w3 ⟨rfl, hb⟩
      have nHB := Lib.hid (belG hn hb hn.size)
      have hb2 := belG ha hb ha.size
      clear hn ha
      clear hb hb2
      clear HB 
      have HB := nHB
      clear nHB 
      go_wp2_with fail
      have hn := HB.out.alloc HB.out.size (.cells #[.int .i64 0, .int .i64 9] 3)
      have ha := (Below.refl w3.heap.size w3).alloc (Nat.le_refl _) (.cells #[.int .i64 0, .int .i64 9] 3)
      refine (C2.out w3 (HT.out.below (HB.out.alloc HB.out.size _))).mono ?_
      rintro e w4 ⟨rfl, hb⟩
      have nHB := Lib.hid (belG hn hb hn.size)
      have hb2 := belG ha hb ha.size
      clear hn ha
      clear hb hb2
      clear HB 
      have HB := nHB
      clear nHB 
      go_wp2_with fail
      go_ret
      exact ⟨by first | rfl | (simp; done), HB.out⟩
    · obtain ⟨r0, r1, r2⟩ := run_off (p := p) (fun h => h6 h.2)
      have h7 : decide (p ≤ 6) = false := decide_eq_false h6
      rw [r0] at C0
      rw [r1] at C1
      rw [r2] at C2
      clear r0 r1 r2 hp
      have HB := Lib.hid (Below.refl W.heap.size W)
      go_enter Try.func8, Try.ntmps8
      go_wp2_with fail
      refine (shown14_any _ (HT.out.below HB.out)).mono ?_
      rintro e w1 ⟨rfl, hb⟩
      have nHB := Lib.hid (belG HB.out hb HB.out.size)
      clear hb
      clear HB 
      have HB := nHB
      clear nHB 
      go_wp2_with fail
      have hn := HB.out.alloc HB.out.size (.cells #[.int .i64 0, .int .i64 1, .int .i64 4, .int .i64 5] 3)
      have ha := (Below.refl w1.heap.size w1).alloc (Nat.le_refl _) (.cells #[.int .i64 0, .int .i64 1, .int .i64 4, .int .i64 5] 3)
      refine (C0.out w1 (HT.out.below (HB.out.alloc HB.out.size _))).mono ?_
      rintro e w2 ⟨rfl, hb⟩
      have nHB := Lib.hid (belG hn hb hn.size)
      have hb2 := belG ha hb ha.size
      clear hn ha
      clear hb hb2
      clear HB 
      have HB := nHB
      clear nHB 
      go_wp2_with fail
      have hn := HB.out.alloc HB.out.size (.cells #[.int .i64 2, .int .i64 3, .int .i64 4, .int .i64 9] 3)
      have ha := (Below.refl w2.heap.size w2).alloc (Nat.le_refl _) (.cells #[.int .i64 2, .int .i64 3, .int .i64 4, .int .i64 9] 3)
      refine (C1.out w2 (HT.out.below (HB.out.alloc HB.out.size _))).mono ?_
      rintro e w3 ⟨rfl, hb⟩
      have nHB := Lib.hid (belG hn hb hn.size)
      have hb2 := belG ha hb ha.size
      clear hn ha
      clear hb hb2
      clear HB 
      have HB := nHB
      clear nHB 
      go_wp2_with fail
      have hn := HB.out.alloc HB.out.size (.cells #[.int .i64 0, .int .i64 9] 3)
      have ha := (Below.refl w3.heap.size w3).alloc (Nat.le_refl _) (.cells #[.int .i64 0, .int .i64 9] 3)
      refine (C2.out w3 (HT.out.below (HB.out.alloc HB.out.size _))).mono ?_
      rintro e w4 ⟨rfl, hb⟩
      have nHB := Lib.hid (belG hn hb hn.size)
      have hb2 := belG ha hb ha.size
      clear hn ha
      clear hb hb2
      clear HB 
      have HB := nHB
      clear nHB 
      go_wp2_with fail
      go_ret
      exact ⟨by first | rfl | (simp; done), HB.out⟩
  · obtain ⟨r0, r1, r2⟩ := run_off (p := p) (fun h => h0 h.1)
    rw [r0] at C0
    rw [r1] at C1
    rw [r2] at C2
    clear r0 r1 r2 hp
    have HB := Lib.hid (Below.refl W.heap.size W)
    go_enter Try.func8, Try.ntmps8
    go_wp2_with fail
    refine (shown14_any _ (HT.out.below HB.out)).mono ?_
    rintro e w1 ⟨rfl, hb⟩
    have nHB := Lib.hid (belG HB.out hb HB.out.size)
    clear hb
    clear HB 
    have HB := nHB
    clear nHB 
    go_wp2_with fail
    have hn := HB.out.alloc HB.out.size (.cells #[.int .i64 0, .int .i64 1, .int .i64 4, .int .i64 5] 3)
    have ha := (Below.refl w1.heap.size w1).alloc (Nat.le_refl _) (.cells #[.int .i64 0, .int .i64 1, .int .i64 4, .int .i64 5] 3)
    refine (C0.out w1 (HT.out.below (HB.out.alloc HB.out.size _))).mono ?_
    rintro e w2 ⟨rfl, hb⟩
    have nHB := Lib.hid (belG hn hb hn.size)
    have hb2 := belG ha hb ha.size
    clear hn ha
    clear hb hb2
    clear HB 
    have HB := nHB
    clear nHB 
    go_wp2_with fail
    have hn := HB.out.alloc HB.out.size (.cells #[.int .i64 2, .int .i64 3, .int .i64 4, .int .i64 9] 3)
    have ha := (Below.refl w2.heap.size w2).alloc (Nat.le_refl _) (.cells #[.int .i64 2, .int .i64 3, .int .i64 4, .int .i64 9] 3)
    refine (C1.out w2 (HT.out.below (HB.out.alloc HB.out.size _))).mono ?_
    rintro e w3 ⟨rfl, hb⟩
    have nHB := Lib.hid (belG hn hb hn.size)
    have hb2 := belG ha hb ha.size
    clear hn ha
    clear hb hb2
    clear HB 
    have HB := nHB
    clear nHB 
    go_wp2_with fail
    have hn := HB.out.alloc HB.out.size (.cells #[.int .i64 0, .int .i64 9] 3)
    have ha := (Below.refl w3.heap.size w3).alloc (Nat.le_refl _) (.cells #[.int .i64 0, .int .i64 9] 3)
    refine (C2.out w3 (HT.out.below (HB.out.alloc HB.out.size _))).mono ?_
    rintro e w4 ⟨rfl, hb⟩
    have nHB := Lib.hid (belG hn hb hn.size)
    have hb2 := belG ha hb ha.size
    clear hn ha
    clear hb hb2
    clear HB 
    have HB := nHB
    clear nHB 
    go_wp2_with fail
    go_ret
    exact ⟨by first | rfl | (simp; done), HB.out⟩
end Go.Proofs.Ytcdmkmmigajbnaa
