
/- phaseGates: its walk, where no table is listed. -/
import Derived.Test.YtcdmkmmigajbnaaPhGates
namespace Go.Proofs.Ytcdmkmmigajbnaa
open Go.RowKit

set_option maxRecDepth 100000 in
theorem phaseGates_walkI (A : Option Addr) (l : List Int) (c : Nat) (W : World) (h1 : l.length ≤ c) (h2 : c ≤ 9223372036854775807) (hz : I64s l) (hr : RdI W W.heap.size A l) :
    Calls Try.prog 5 #[.slice A l.length c] W fun e W' => e = .returned (.bool true) ∧ Below W.heap.size W W' := phaseGates_walk A l c W h1 h2 hz hr (tph W)
end Go.Proofs.Ytcdmkmmigajbnaa
