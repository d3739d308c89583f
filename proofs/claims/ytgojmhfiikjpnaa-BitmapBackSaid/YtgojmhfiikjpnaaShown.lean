
/- shown: the document's examples -/
import Derived.Test.YtgojmhfiikjpnaaTakeB
namespace Go.Proofs.Ytgojmhfiikjpnaa
open Go.RowKit

theorem ex_same (W : World) (A B : Option Addr) (c d : Nat) (ha : Rd W W.heap.size A [1, 35, 69]) (hb : Rd W W.heap.size B [1, 35, 69]) : Calls Try.prog 14 #[.slice A 3 c, .slice B 3 d] W fun e W' => e = .returned (.bool true) ∧ W = W' :=
  (same_any A B [1, 35, 69] [1, 35, 69] c d _ _ W ha hb).mono fun e W' h => ⟨h.1.trans (by rfl), h.2⟩

end Go.Proofs.Ytgojmhfiikjpnaa
