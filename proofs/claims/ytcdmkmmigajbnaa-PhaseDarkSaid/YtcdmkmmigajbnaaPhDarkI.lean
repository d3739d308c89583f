
/- phaseDark: its walk, where no table is listed. -/
import Derived.Test.YtcdmkmmigajbnaaPhDark
namespace Go.Proofs.Ytcdmkmmigajbnaa
open Go.RowKit

set_option maxRecDepth 100000 in
theorem phaseDark_walkI (p v : Int) (W : World) (hp : B64p p) (hv : B64p v) :
    Calls Try.prog 6 #[.int .i64 p, .int .i64 v] W fun e W' => e = .returned (.bool true) ∧ Below W.heap.size W W' := phaseDark_walk p v W hp hv (tph W)
end Go.Proofs.Ytcdmkmmigajbnaa
