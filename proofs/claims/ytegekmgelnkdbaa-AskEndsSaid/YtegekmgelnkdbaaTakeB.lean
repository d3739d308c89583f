
/- dig.TakeBcd -/
import Derived.Test.YtegekmgelnkdbaaPack
import Derived.Lib.IndexBytes
namespace Go.Proofs.Ytegekmgelnkdbaa
open Go.RowKit

/-- what TakeBcd answers of the bytes that hold the figures -/
def tbOk (part : List UInt8) (n : Nat) : Bool := allFig (hx part) && (decide (n % 2 = 0) || decide ((hx part).getD 0 0 = 48))
def tbV (part : List UInt8) (p n : Nat) : Value :=
  if tbOk part n = true then .tuple #[.string ⟨((hx part).drop (n % 2)).toArray⟩, .int .i64 ((p : Int) + part.length), .int .i64 0] else .tuple #[.string ⟨#[]⟩, .int .i64 0, .int .i64 2]

end Go.Proofs.Ytegekmgelnkdbaa
