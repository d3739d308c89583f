
/- The document's keys; a word as a sum. -/
import Derived.Test.YtcfncbbdlbdbnaaDoorKeys
namespace Go.Proofs.YtcfncbbdlbdbnaaDoor
open Go.RowKit

theorem word4_sum (x0 x1 x2 x3 : UInt8) : (x0.toNat : Int) * 16777216 + (x1.toNat : Int) * 65536 + (x2.toNat : Int) * 256 + (x3.toNat : Int) = ((word4 x0 x1 x2 x3).toNat : Int) := by
  have b0 := x0.toNat_lt
  have b1 := x1.toNat_lt
  have b2 := x2.toNat_lt
  have b3 := x3.toNat_lt
  have s0 : (x0.toUInt32 <<< UInt32.ofNat 24).toNat = 2 ^ 24 * x0.toNat := by
    have := w_shl x0.toUInt32 24 (by decide)
    rw [UInt8.toNat_toUInt32] at this
    omega
  have s1 : (x1.toUInt32 <<< UInt32.ofNat 16).toNat = 2 ^ 16 * x1.toNat := by
    have := w_shl x1.toUInt32 16 (by decide)
    rw [UInt8.toNat_toUInt32] at this
    omega
  have s2 : (x2.toUInt32 <<< UInt32.ofNat 8).toNat = 2 ^ 8 * x2.toNat := by
    have := w_shl x2.toUInt32 8 (by decide)
    rw [UInt8.toNat_toUInt32] at this
    omega
  unfold word4
  rw [UInt32.toNat_or, UInt32.toNat_or, UInt32.toNat_or, s0, s1, s2, UInt8.toNat_toUInt32]
  rw [← Nat.two_pow_add_eq_or_of_lt (i := 24) (by omega) x0.toNat]
  rw [show 2 ^ 24 * x0.toNat + 2 ^ 16 * x1.toNat = 2 ^ 16 * (256 * x0.toNat + x1.toNat) by omega, ← Nat.two_pow_add_eq_or_of_lt (i := 16) (by omega) _]
  rw [show 2 ^ 16 * (256 * x0.toNat + x1.toNat) + 2 ^ 8 * x2.toNat = 2 ^ 8 * (256 * (256 * x0.toNat + x1.toNat) + x2.toNat) by omega, ← Nat.two_pow_add_eq_or_of_lt (i := 8) (by omega) _]
  omega

/-- a slice that reads as the rounds' keys -/
def KR (w : World) (g : Nat) : Prop := g < w.heap.size ∧ ∀ j, j < 64 → w.cell? ⟨g, j, none⟩ = some (wv (ksAt j))
theorem KR.below {w w' : World} {g B : Nat} (h : KR w g) (hb : Below B w w') (hB : w.heap.size ≤ B) : KR w' g :=
  ⟨Nat.lt_of_lt_of_le h.1 hb.size, fun j hj => (hb.cell (p := ⟨g, j, none⟩) (Nat.lt_of_lt_of_le h.1 hB)).trans (h.2 j hj)⟩

theorem kr_at {W : World} {g : Nat} {C : Array Value} {t : TypeId} {fr : Nat × Nat} (hC : C = (ksL.map fun x => wv x).toArray) (h : W.heap[g]? = some (.cells C t fr)) : KR W g := by
  subst hC
  refine ⟨(Array.getElem?_eq_some_iff.1 h).1, fun j hj => ?_⟩
  have hl : j < ksL.length := hj
  rw [cell_of_row _ _ _ _ _ _ h, List.getElem?_toArray, List.getElem?_map, List.getElem?_eq_getElem hl]
  unfold ksAt
  rw [List.getD_eq_getElem?_getD, List.getElem?_eq_getElem hl]
  rfl
set_option maxRecDepth 100000 in
theorem keys_any (w : World) : Calls Tryd.prog 52 #[] w fun e w' => e = .returned (.slice (some ⟨w.heap.size, 0, none⟩) 64 64) ∧ KR w' w.heap.size ∧ Below w.heap.size w w' := by
  go_enter Tryd.func52, Tryd.ntmps52
  go_wp2
  go_ret
  exact ⟨rfl, kr_at (by kernel_rfl) (heap_alloc_new w _), (Below.refl _ _).alloc (Nat.le_refl _) _⟩

end Go.Proofs.YtcfncbbdlbdbnaaDoor
