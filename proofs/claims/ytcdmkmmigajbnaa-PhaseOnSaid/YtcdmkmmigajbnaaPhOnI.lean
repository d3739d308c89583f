
/- phaseOn: its walk, where no table is listed. -/
import Derived.Test.YtcdmkmmigajbnaaPhOn
namespace Go.Proofs.Ytcdmkmmigajbnaa
open Go.RowKit

set_option maxRecDepth 100000 in
theorem phaseOn_walkI (p : Int) (W : World) (hp : B64p p) :
    Calls Try.prog 8 #[.int .i64 p] W fun e W' => e = .returned (.bool true) ∧ Below W.heap.size W W' := phaseOn_walk p W hp (tph W)
end Go.Proofs.Ytcdmkmmigajbnaa
