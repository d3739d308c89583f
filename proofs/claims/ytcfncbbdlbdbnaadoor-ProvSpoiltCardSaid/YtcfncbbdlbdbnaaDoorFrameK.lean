
/- What the laws' frames share where the table of keys is listed: the condition, its witness, what it gives the walks. -/
import Derived.Test.YtcfncbbdlbdbnaaDoorTurned
import Derived.Test.YtcfncbbdlbdbnaaDoorFrame
import Derived.LaidMore
import Derived.MakeChecks
import Derived.Lib.LaidTab
namespace Go.Proofs.YtcfncbbdlbdbnaaDoor
open Go.ChangeShapes Go.WideShapes Go.ChangeAt Go.RowKit

abbrev laid1 : List (String × DataW Unit) := [("yett/sha.keys", Rows.laid_yett_sha_keys)]
theorem door_met (os : Os) (args : Array Value) : laidMetH Tryd.prog laid1 ((World.doorLaid Tryd.prog 14 os).forCall (fun _ _ => 0) ⟨#[], args, []⟩).memory :=
  laidMetH_of_parts3 (fuel := 8) (laidMet_of_run' 8 (by kernel_rfl) (by kernel_rfl)) (by kernel_rfl) (by kernel_rfl)
theorem gKeys : Tryd.prog.globalNamed "yett/sha.keys" = some 0 := by kernel_rfl
theorem tKeys : (Tryd.prog.globals[0]?).map (·.type) = some 95 := by kernel_rfl
theorem keysData : (Rows.laid_yett_sha_keys : DataW Unit) = Lib.tabData .u32 (ksL.map fun x => (x.toNat : Int)) := by kernel_rfl
theorem ks_of_laid {W : World} (h : laidMetH Tryd.prog laid1 W) : Ks W := by
  rw [MakeChecks.laidMetH_plain _ _ _ (by kernel_rfl)] at h
  obtain ⟨ps, ⟨g0, t0, cs0, f0, p0, q0, hg0, ht0, hv0, hd0, _, _⟩, _, _⟩ := h
  obtain rfl := Option.some.inj (gKeys.symm.trans hg0)
  obtain rfl := Option.some.inj (tKeys.symm.trans ht0)
  rw [keysData] at hd0
  have hcs := Lib.cells_of_tab Tryd.underlying95 Tryd.underlying75 (by kernel_rfl) (by kernel_rfl) hd0
  have hc : ∀ j, j < 64 → W.cell? ⟨0, j, none⟩ = some (wv (ksAt j)) := by
    intro j hj
    have h1 := World.var?_cell hg0 hv0 j
    have h2 : cs0[j]? = cs0.toList[j]? := by simp
    rw [h1, h2, hcs]
    have hl : j < ksL.length := hj
    rw [List.getElem?_map, List.getElem?_map, List.getElem?_eq_getElem hl]
    unfold ksAt
    rw [List.getD_eq_getElem?_getD, List.getElem?_eq_getElem hl]
    rfl
  exact ⟨World.block_lt_of_cell? W ⟨0, 0, none⟩ (hc 0 (by omega)), hc⟩
end Go.Proofs.YtcfncbbdlbdbnaaDoor
