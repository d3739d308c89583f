
/- Each exported function of dig, at all arguments. -/
import Derived.Test.YtgojmhfiikjpnaaShown
import Derived.Test.YtgojmhfiikjpnaaPure
namespace Go.Proofs.Ytgojmhfiikjpnaa
open Go.RowKit

def digOk (n w : Int) : Bool := decide (1 ≤ w) && decide (w ≤ 18) && decide (0 ≤ n) && decide (n.toNat < 10 ^ w.toNat)
def digL (n w : Int) : List UInt8 := if digOk n w = true then dgL 48 10 n.toNat w.toNat else []
def digE (n w : Int) : Int := if digOk n w = true then 0 else 1
theorem valR_len (l : List UInt8) (h : l.length < 1 ∨ 18 < l.length) : valR l = (0, 2) := by rw [valR, if_neg (by omega)]
def bcdL (l : List UInt8) : List UInt8 := if allFig l = true then packL gFig l else []
def bcdE (l : List UInt8) : Int := if allFig l = true then 0 else 2
def bigOk (n w : Int) : Bool := decide (1 ≤ w) && decide (w ≤ 8) && decide (0 ≤ n) && decide (n.toNat < 256 ^ w.toNat)
def bigL (n w : Int) : List UInt8 := if bigOk n w = true then dgL 0 256 n.toNat w.toNat else []
def bigE (n w : Int) : Int := if bigOk n w = true then 0 else 1
def unhexOk (l : List UInt8) : Bool := decide (l.length % 2 = 0) && okL gHalf l
def unhexL (l : List UInt8) : List UInt8 := if unhexOk l = true then packL gHalf l else []
def unhexE (l : List UInt8) : Int := if unhexOk l = true then 0 else 2
def tbS (l : List UInt8) (at_ n : Int) : List UInt8 × Int × Int :=
  if n < 0 ∨ 999 < n ∨ at_ < 0 ∨ l.length < at_ then ([], 0, 1)
  else if l.length < at_.toNat + (n.toNat + 1) / 2 then ([], 0, 3)
  else if tbOk ((l.drop at_.toNat).take ((n.toNat + 1) / 2)) n.toNat = true then ((hx ((l.drop at_.toNat).take ((n.toNat + 1) / 2))).drop (n.toNat % 2), at_ + ((n.toNat + 1) / 2 : Nat), 0)
  else ([], 0, 2)
def tgS (l : List UInt8) (at_ w : Int) : Int × Int × Int :=
  if w < 1 ∨ 8 < w ∨ at_ < 0 ∨ l.length < at_ then (0, 0, 1)
  else if l.length < at_.toNat + w.toNat then (0, 0, 3)
  else if numL ((l.drop at_.toNat).take w.toNat) ≤ 9223372036854775807 then (numL ((l.drop at_.toNat).take w.toNat), at_ + w, 0)
  else (0, 0, 2)
end Go.Proofs.Ytgojmhfiikjpnaa
