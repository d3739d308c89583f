
/- Key and Right, in both; New of the document. -/
import Derived.Test.YtcfncbbdlbdbnaaDoorOf
namespace Go.Proofs.YtcfncbbdlbdbnaaDoor
open Go.RowKit

def keyF (i : Int) : UInt32 := if 0 ≤ i ∧ i < 64 then ksAt i.toNat else 0
theorem keyF_no {i : Int} (h : i < 0 ∨ 64 ≤ i) : keyF i = 0 := by unfold keyF; rw [if_neg (by omega)]
theorem keyF_yes {j : Nat} (h : j < 64) : keyF (j : Int) = ksAt j := by unfold keyF; rw [if_pos (by omega), Int.toNat_natCast]

def rightB (N : Int) (n : Nat) : Bool := decide (0 ≤ N ∧ N ≤ 1125899906842624 ∧ (n : Int) = N % 64)

set_option maxRecDepth 100000 in
theorem refNew_any (w : World) : Calls Tryd.prog 46 #[] w fun e w' => e = .returned (hv h0 0 (.slice none 0 0)) ∧ Below w.heap.size w w' := by
  go_enter Tryd.func46, Tryd.ntmps46
  go_wp2
  (try simp only [Exit.inBlock, Exit.then])
  refine bodyPost_ret (retH rfl _ _ w.heap.size h0 0 (.slice none 0 0) rfl (heap_alloc_new w _)) rfl ?_
  exact ⟨rfl, (Below.refl _ _).alloc (Nat.le_refl _) _⟩
end Go.Proofs.YtcfncbbdlbdbnaaDoor
