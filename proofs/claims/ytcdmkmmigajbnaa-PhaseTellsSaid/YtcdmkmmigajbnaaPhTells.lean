
/- PhaseTells' walk. -/
import Derived.Test.YtcdmkmmigajbnaaJ07
namespace Go.Proofs.Ytcdmkmmigajbnaa
open Go.RowKit

set_option maxRecDepth 100000 in
set_option maxHeartbeats 4000000 in
theorem phaseTells_walk (p v : Int) (W : World) (hp : B64p p) (hv : B64p v) (hT : Tph W) :
    Calls Try.prog 3 #[.int .i64 p, .int .i64 v] W fun e W' => e = .returned (.bool true) ∧ Below W.heap.size W W' := by
  have HT := Lib.hid hT
  clear hT
  have EN := Lib.hid (fun w hT => pNext_any p v w hT hp hv)
  have DN := Lib.hid (fun w => next14_any p v w)
  have EG := Lib.hid (fun w hT => pGate_any p w hT hp)
  have DG := Lib.hid (fun w => gate14_any p w)
  have EL := Lib.hid (fun w hT => pLinked_any p w hT hp)
  have DL := Lib.hid (fun w => linked14_any p w)
  have EM := Lib.hid (fun w hT => pName_any p w hT hp)
  have DM := Lib.hid (fun w => name14_any p w)
  obtain ⟨q, hq⟩ : ∃ q, q = (nextP p v).1 := ⟨_, rfl⟩
  obtain ⟨i, hi⟩ : ∃ q, q = (nextP p v).2 := ⟨_, rfl⟩
  rw [← hq, ← hi] at EN DN
  generalize gateP p = g at *
  generalize linkedP p = l at *
  obtain ⟨s, hs⟩ : ∃ s : ByteArray, s = ⟨(nameP p).toArray⟩ := ⟨_, rfl⟩
  rw [← hs] at EM DM
  have q1 : (q == q) = true := by simp
  have q2 : (i == i) = true := by cases i <;> rfl
  have q3 : (g == g) = true := by cases g <;> rfl
  have q4 : (l == l) = true := by cases l <;> rfl
  have q5 : (s.toList == s.toList) = true := by simp
  clear hq hi hs hp hv
  have HB := Lib.hid (Below.refl W.heap.size W)
  go_enter Try.func3, Try.ntmps3
  go_wp2_with fail
  refine (shown14_any _ (HT.out.below HB.out)).mono ?_
  rintro e w1 ⟨rfl, hb⟩
  have nHB := Lib.hid (belG HB.out hb HB.out.size)
  clear hb
  clear HB 
  have HB := nHB
  clear nHB 
  go_wp2_with fail
  refine (EN.out _ (HT.out.below HB.out)).mono ?_
  rintro e w2 ⟨rfl, hb⟩
  have nHB := Lib.hid (belG HB.out hb HB.out.size)
  clear hb
  clear HB 
  have HB := nHB
  clear nHB 
  go_wp2_with fail
  refine (DN.out _).mono ?_
  rintro e w3 ⟨rfl, hb⟩
  have nHB := Lib.hid (belG HB.out hb HB.out.size)
  clear hb
  clear HB 
  have HB := nHB
  clear nHB 
  go_wp2_with fail
  refine (EG.out _ (HT.out.below HB.out)).mono ?_
  rintro e w4 ⟨rfl, hb⟩
  have nHB := Lib.hid (belG HB.out hb HB.out.size)
  clear hb
  clear HB 
  have HB := nHB
  clear nHB 
  go_wp2_with fail
  refine (DG.out _).mono ?_
  rintro e w5 ⟨rfl, rfl⟩
  go_wp2_with fail
  refine (EL.out _ (HT.out.below HB.out)).mono ?_
  rintro e w6 ⟨rfl, hb⟩
  have nHB := Lib.hid (belG HB.out hb HB.out.size)
  clear hb
  clear HB 
  have HB := nHB
  clear nHB 
  go_wp2_with fail
  refine (DL.out _).mono ?_
  rintro e w7 ⟨rfl, rfl⟩
  go_wp2_with fail
  refine (EM.out _ (HT.out.below HB.out)).mono ?_
  rintro e w8 ⟨rfl, hb⟩
  have nHB := Lib.hid (belG HB.out hb HB.out.size)
  clear hb
  clear HB 
  have HB := nHB
  clear nHB 
  go_wp2_with fail
  refine (DM.out _).mono ?_
  rintro e w9 ⟨rfl, hb⟩
  have nHB := Lib.hid (belG HB.out hb HB.out.size)
  clear hb
  clear HB 
  have HB := nHB
  clear nHB 
  go_wp2_with fail
  go_ret
  exact ⟨by first | rfl | (simp; done), HB.out⟩
end Go.Proofs.Ytcdmkmmigajbnaa
