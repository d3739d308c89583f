
/- phaseRuns: its walk, where no table is listed. -/
import Derived.Test.YtcdmkmmigajbnaaPhRuns
namespace Go.Proofs.Ytcdmkmmigajbnaa
open Go.RowKit

set_option maxRecDepth 100000 in
theorem phaseRuns_walkI (p : Int) (A : Option Addr) (l : List Int) (c : Nat) (t : Int) (W : World) (hp : B64p p) (h1 : l.length ≤ c) (h2 : c ≤ 9223372036854775807) (hz : I64s l) (hr : RdI W W.heap.size A l) (ht : 0 ≤ t ∧ t ≤ 255) :
    Calls Try.prog 4 #[.int .i64 p, .slice A l.length c, .int .u8 t] W fun e W' => e = .returned (.bool true) ∧ Below W.heap.size W W' := phaseRuns_walk p A l c t W hp h1 h2 hz hr ht (tph W)
end Go.Proofs.Ytcdmkmmigajbnaa
