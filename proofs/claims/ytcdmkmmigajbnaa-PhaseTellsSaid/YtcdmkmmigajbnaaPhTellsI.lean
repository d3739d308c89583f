
/- phaseTells: its walk, where no table is listed. -/
import Derived.Test.YtcdmkmmigajbnaaPhTells
namespace Go.Proofs.Ytcdmkmmigajbnaa
open Go.RowKit

set_option maxRecDepth 100000 in
theorem phaseTells_walkI (p v : Int) (W : World) (hp : B64p p) (hv : B64p v) :
    Calls Try.prog 3 #[.int .i64 p, .int .i64 v] W fun e W' => e = .returned (.bool true) ∧ Below W.heap.size W W' := phaseTells_walk p v W hp hv (tph W)
end Go.Proofs.Ytcdmkmmigajbnaa
