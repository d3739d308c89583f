
/- PhaseNames' walk. -/
import Derived.Test.YtcdmkmmigajbnaaJ07
namespace Go.Proofs.Ytcdmkmmigajbnaa
open Go.RowKit

set_option maxRecDepth 100000 in
set_option maxHeartbeats 4000000 in
theorem phaseNames_walk (p q : Int) (W : World) (hp : B64p p) (hq : B64p q) (hT : Tph W) :
    Calls Try.prog 7 #[.int .i64 p, .int .i64 q] W fun e W' => e = .returned (.bool true) ∧ Below W.heap.size W W' := by
  have HT := Lib.hid hT
  clear hT
  have EP := Lib.hid (fun w hT => pName_any p w hT hp)
  have EQ := Lib.hid (fun w hT => pName_any q w hT hq)
  have ER := Lib.hid (fun w hT => pRun_any p none [] 0 w hT hp (by decide) (by decide) (fun z h => by cases h) RdI.nil)
  rw [show (runP p []).1 = p from rfl, show (runP p []).2 = 0 from rfl, show ([] : List Int).length = 0 from rfl] at ER
  obtain ⟨s, hs⟩ : ∃ s : ByteArray, s = ⟨(nameP p).toArray⟩ := ⟨_, rfl⟩
  obtain ⟨t, ht⟩ : ∃ s : ByteArray, s = ⟨(nameP q).toArray⟩ := ⟨_, rfl⟩
  rw [← hs] at EP
  rw [← ht] at EQ
  have q0 : (p == p) = true := by simp
  have h1 : s.toList.isEmpty = decide (nameP p = []) := by
    rw [hs, Bool.eq_iff_iff]; simp
  have h2 : (s.toList == t.toList) = decide (nameP p = nameP q) := by
    rw [hs, ht, Bool.eq_iff_iff]; simp
  have h3 : decide (nameP p = []) = !decide (0 ≤ p ∧ p ≤ 8) := by
    rw [Bool.eq_iff_iff]
    simp only [decide_eq_true_eq, Bool.not_eq_true', decide_eq_false_iff_not]
    exact ⟨fun h k => (name_some p).2 k h, fun h => Classical.byContradiction fun k => h ((name_some p).1 k)⟩
  rw [h3] at h1
  clear hs ht h3 hp hq
  have HB := Lib.hid (Below.refl W.heap.size W)
  go_enter Try.func7, Try.ntmps7
  go_wp2_with fail
  refine (shown14_any _ (HT.out.below HB.out)).mono ?_
  rintro e w1 ⟨rfl, hb⟩
  have nHB := Lib.hid (belG HB.out hb HB.out.size)
  clear hb
  clear HB 
  have HB := nHB
  clear nHB 
  go_wp2_with fail
  refine (EP.out _ (HT.out.below HB.out)).mono ?_
  rintro e w2 ⟨rfl, hb⟩
  have nHB := Lib.hid (belG HB.out hb HB.out.size)
  clear hb
  clear HB 
  have HB := nHB
  clear nHB 
  go_wp2_with fail
  refine (EQ.out _ (HT.out.below HB.out)).mono ?_
  rintro e w3 ⟨rfl, hb⟩
  have nHB := Lib.hid (belG HB.out hb HB.out.size)
  clear hb
  clear HB 
  have HB := nHB
  clear nHB 
  by_cases h0 : 0 ≤ p
  · by_cases h8 : p ≤ 8
    · rw [decide_eq_true (show 0 ≤ p ∧ p ≤ 8 from ⟨h0, h8⟩), Bool.not_true] at h1
      rw [show decide (nameP p = nameP q) = decide (p = q) from by rw [Bool.eq_iff_iff, decide_eq_true_eq, decide_eq_true_eq]; exact name_inj ⟨h0, h8⟩] at h2
      by_cases hpq : p = q
      · have h4 : (p == q) = true := by rw [hpq]; simp
        rw [decide_eq_true hpq] at h2
        clear hpq
        go_wp2_with fail
        refine (ER.out _ (HT.out.below HB.out)).mono ?_
        rintro e w4 ⟨rfl, hb⟩
        have nHB := Lib.hid (belG HB.out hb HB.out.size)
        clear hb
        clear HB 
        have HB := nHB
        clear nHB 
        go_wp2_with fail
        go_ret
        exact ⟨by first | rfl | (simp; done), HB.out⟩
      · have h4 : (p == q) = false := beq_eq_false_iff_ne.2 hpq
        rw [decide_eq_false hpq] at h2
        clear hpq
        go_wp2_with fail
        refine (ER.out _ (HT.out.below HB.out)).mono ?_
        rintro e w4 ⟨rfl, hb⟩
        have nHB := Lib.hid (belG HB.out hb HB.out.size)
        clear hb
        clear HB 
        have HB := nHB
        clear nHB 
        go_wp2_with fail
        go_ret
        exact ⟨by first | rfl | (simp; done), HB.out⟩
    · rw [decide_eq_false (fun h : 0 ≤ p ∧ p ≤ 8 => h8 h.2), Bool.not_false] at h1
      clear h2
      go_wp2_with fail
      refine (ER.out _ (HT.out.below HB.out)).mono ?_
      rintro e w4 ⟨rfl, hb⟩
      have nHB := Lib.hid (belG HB.out hb HB.out.size)
      clear hb
      clear HB 
      have HB := nHB
      clear nHB 
      go_wp2_with fail
      go_ret
      exact ⟨by first | rfl | (simp; done), HB.out⟩
  · rw [decide_eq_false (fun h : 0 ≤ p ∧ p ≤ 8 => h0 h.1), Bool.not_false] at h1
    clear h2
    go_wp2_with fail
    refine (ER.out _ (HT.out.below HB.out)).mono ?_
    rintro e w4 ⟨rfl, hb⟩
    have nHB := Lib.hid (belG HB.out hb HB.out.size)
    clear hb
    clear HB 
    have HB := nHB
    clear nHB 
    go_wp2_with fail
    go_ret
    exact ⟨by first | rfl | (simp; done), HB.out⟩
end Go.Proofs.Ytcdmkmmigajbnaa
