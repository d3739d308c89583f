
/- askTells: its walk, where no table is listed. -/
import Derived.Test.YtegekmgelnkdbaaAqTells
namespace Go.Proofs.Ytegekmgelnkdbaa
open Go.RowKit

set_option maxRecDepth 100000 in
theorem askTells_walkI (x : Wkb) (a : Aq) (y : Wkb) (b : Aq) (c s : Int) (z : Wkb) (l : List UInt8) (W : World) (h64a : Aq64 a) (h64b : Aq64 b) (hc : B64a c) (hs : B64a s) (hx : AqR W x a) (hy : AqR W y b) (hz : KeyB W z l) :
    Calls Try.prog 3 #[.agg (aTellC x a y b c s z l)] W fun e W' => e = .returned (.bool true) ∧ Below W.heap.size W W' := askTells_walk x a y b c s z l W h64a h64b hc hs hx hy hz (tas W)
end Go.Proofs.Ytegekmgelnkdbaa
