
/- DigParts' walk -/
import Derived.Test.YtgojmhfiikjpnaaWOrder
namespace Go.Proofs.Ytgojmhfiikjpnaa
open Go.RowKit

theorem digL_len {n w : Int} (h : digE n w = 0) : (digL n w).length = w.toNat := by
  unfold digL
  rw [if_pos (ok_of_digE h), dgL_length]
theorem digL_fig {n w : Int} (h : digE n w = 0) : allFig (digL n w) = true := by
  unfold digL
  rw [if_pos (ok_of_digE h), dgL_fig]

theorem str_append (a b : List UInt8) : (⟨a.toArray⟩ : ByteArray) ++ ⟨b.toArray⟩ = ⟨(a ++ b).toArray⟩ := by
  apply ByteArray.ext
  simp

end Go.Proofs.Ytgojmhfiikjpnaa
