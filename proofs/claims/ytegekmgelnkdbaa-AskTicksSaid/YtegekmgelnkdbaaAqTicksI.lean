
/- askTicks: its walk, where no table is listed. -/
import Derived.Test.YtegekmgelnkdbaaAqTicks
namespace Go.Proofs.Ytegekmgelnkdbaa
open Go.RowKit

set_option maxRecDepth 100000 in
theorem askTicks_walkI (x : Wkb) (a : Aq) (W : World) (h64 : Aq64 a) (hx : AqR W x a) :
    Calls Try.prog 4 #[.agg (askC x a)] W fun e W' => e = .returned (.bool true) ∧ Below W.heap.size W W' := askTicks_walk x a W h64 hx (tas W)
end Go.Proofs.Ytegekmgelnkdbaa
