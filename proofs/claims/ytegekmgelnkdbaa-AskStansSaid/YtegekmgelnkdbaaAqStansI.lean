
/- askStans: its walk, where no table is listed. -/
import Derived.Test.YtegekmgelnkdbaaAqStans
namespace Go.Proofs.Ytegekmgelnkdbaa
open Go.RowKit

set_option maxRecDepth 100000 in
theorem askStans_walkI (n k : Int) (W : World) (hn : B64a n) (hk : 0 ≤ k ∧ k ≤ 255) :
    Calls Try.prog 7 #[.int .i64 n, .int .u8 k] W fun e W' => e = .returned (.bool true) ∧ Below W.heap.size W W' := askStans_walk n k W hn hk (tas W)
end Go.Proofs.Ytegekmgelnkdbaa
