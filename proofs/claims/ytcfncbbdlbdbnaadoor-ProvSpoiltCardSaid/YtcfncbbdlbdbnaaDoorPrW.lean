
/- What a block made, or written, leaves of what is read. -/
import Derived.Test.YtcfncbbdlbdbnaaDoorPrH
namespace Go.Proofs.YtcfncbbdlbdbnaaDoor
open Go.RowKit

theorem Tab.al {W : World} {A : Option Addr} {l : List Pr} (h : Tab W W.heap.size A l) (o : Obj) : Tab (W.alloc o) (W.alloc o).heap.size A l := by
  have b := (Below.refl W.heap.size W).alloc (Nat.le_refl _) o
  exact (h.below b (Nat.le_refl _)).more b.size
theorem Rd.al {W : World} {A : Option Addr} {l : List UInt8} (h : Rd W W.heap.size A l) (o : Obj) : Rd (W.alloc o) (W.alloc o).heap.size A l := by
  have b := (Below.refl W.heap.size W).alloc (Nat.le_refl _) o
  exact (h.below b (Nat.le_refl _)).more b.size
theorem Tab.put {W : World} {g : Nat} {A X : Option Addr} {l : List Pr} {i f : Bool} {n c : Nat} {t : TypeId} {fr : Nat × Nat} (h : Tab W W.heap.size A l) (hg : W.heap[g]? = some (.cells (pcs i X n c f) t fr)) (x y z : Value) : Tab (Go.Proofs.YtcfncbbdlbdbnaaDoor.set3 W g x y z) (Go.Proofs.YtcfncbbdlbdbnaaDoor.set3 W g x y z).heap.size A l := by
  rw [set3_size]
  exact h.set3 hg x y z
theorem Rd.put {W : World} {g : Nat} {A X : Option Addr} {l : List UInt8} {i f : Bool} {n c : Nat} {t : TypeId} {fr : Nat × Nat} (h : Rd W W.heap.size A l) (hg : W.heap[g]? = some (.cells (pcs i X n c f) t fr)) (x y z : Value) : Rd (Go.Proofs.YtcfncbbdlbdbnaaDoor.set3 W g x y z) (Go.Proofs.YtcfncbbdlbdbnaaDoor.set3 W g x y z).heap.size A l := by
  rw [set3_size]
  exact h.set3 hg x y z

end Go.Proofs.YtcfncbbdlbdbnaaDoor
