
/- phaseNames: its walk, where no table is listed. -/
import Derived.Test.YtcdmkmmigajbnaaPhNames
namespace Go.Proofs.Ytcdmkmmigajbnaa
open Go.RowKit

set_option maxRecDepth 100000 in
theorem phaseNames_walkI (p q : Int) (W : World) (hp : B64p p) (hq : B64p q) :
    Calls Try.prog 7 #[.int .i64 p, .int .i64 q] W fun e W' => e = .returned (.bool true) ∧ Below W.heap.size W W' := phaseNames_walk p q W hp hq (tph W)
end Go.Proofs.Ytcdmkmmigajbnaa
