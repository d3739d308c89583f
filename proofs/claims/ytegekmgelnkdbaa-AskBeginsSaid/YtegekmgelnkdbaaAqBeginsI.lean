
/- askBegins: its walk, where no table is listed. -/
import Derived.Test.YtegekmgelnkdbaaAqBegins
namespace Go.Proofs.Ytegekmgelnkdbaa
open Go.RowKit

set_option maxRecDepth 100000 in
theorem askBegins_walkI (c s : Int) (z : Wkb) (l : List UInt8) (o : Int) (W : World) (hc : B64a c) (hs : B64a s) (hz : KeyB W z l) (ho : B64a o) :
    Calls Try.prog 6 #[.agg (aBegC c s z l o)] W fun e W' => e = .returned (.bool true) ∧ Below W.heap.size W W' := askBegins_walk c s z l o W hc hs hz ho (tas W)
end Go.Proofs.Ytegekmgelnkdbaa
