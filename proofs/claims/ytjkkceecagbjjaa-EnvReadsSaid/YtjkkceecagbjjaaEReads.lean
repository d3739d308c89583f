
/- EnvReads' walk. -/
import Derived.Test.YtjkkceecagbjjaaEnS
namespace Go.Proofs.Ytjkkceecagbjjaa
open Go.RowKit

set_option maxRecDepth 100000 in
set_option maxHeartbeats 4000000 in
theorem envReads_walk (A : Option Addr) (b : List UInt8) (c : Nat) (W : World) (h1 : b.length ≤ c) (h2 : c ≤ 9223372036854775807) (h3 : Rd W W.heap.size A b) :
    Calls Try.prog 4 #[.slice A b.length c] W fun e W' => e = .returned (.bool true) ∧ Below W.heap.size W W' := by
  have KB := Lib.hid (show KeyE W (A, c) b from ⟨h1, h2, h3⟩)
  by_cases hl : b.length ≤ 1000
  case neg =>
    have hn : (1000 : Int) < (b.length : Int) := by omega
    generalize b.length = n at *
    clear hl h1 h2 h3 KB
    go_enter Try.func4, Try.ntmps4
    go_wp2_with fail
    refine (shown12_any _).mono ?_
    rintro e w1 ⟨rfl, hb⟩
    have HB := Lib.hid hb
    clear hb
    go_wp2_with fail
    go_ret
    exact ⟨rfl, HB.out⟩
  have CR := Lib.hid (fun w h => eRead_any (A, c) b w (by omega) h)
  have CF := Lib.hid (fun w h => read12_any A b c w (by omega) h)
  obtain ⟨r, hr⟩ : ∃ r, r = (readE b).1 := ⟨_, rfl⟩
  obtain ⟨m, hm⟩ : ∃ m, m = (readE b).2 := ⟨_, rfl⟩
  rw [← hr, ← hm] at CR CF
  have hn : ¬ (1000 : Int) < (b.length : Int) := by omega
  generalize b.length = n at *
  clear hl h1 h2 h3 hr hm
  have HB := Lib.hid (Below.refl W.heap.size W)
  go_enter Try.func4, Try.ntmps4
  go_wp2_with fail
  refine (shown12_any _).mono ?_
  rintro e w1 ⟨rfl, hb⟩
  have nHB := Lib.hid (belG HB.out hb HB.out.size)
  have nKB := Lib.hid (KB.out.go hb)
  clear hb
  clear HB KB
  have HB := nHB
  have KB := nKB
  clear nHB nKB
  go_wp2_with fail
  refine (CR.out _ KB.out).mono ?_
  rintro e w2 ⟨⟨x1, rfl, hk⟩, hb⟩
  have nHB := Lib.hid (belG HB.out hb HB.out.size)
  have nKB := Lib.hid (KB.out.go hb)
  clear hb
  clear HB KB
  have HB := nHB
  have KB := nKB
  clear nHB nKB
  have RX := Lib.hid hk
  clear hk
  have LB := Lib.hid HB.out.size
  obtain ⟨V2, hV2⟩ : ∃ V, V = w2.alloc (.cells (envC x1 r) 25) := ⟨_, rfl⟩
  have ha := (Below.refl w2.heap.size w2).alloc (Nat.le_refl _) (.cells (envC x1 r) 25)
  have hg := heap_alloc_new w2 (.cells (envC x1 r) 25)
  have nHB := Lib.hid (HB.out.alloc HB.out.size (.cells (envC x1 r) 25))
  rw [← hV2] at ha hg nHB
  have nKB := Lib.hid (KB.out.go ha)
  have nRX := Lib.hid (RX.out.go ha)
  obtain ⟨x, hx⟩ : ∃ g, g = w2.heap.size := ⟨_, rfl⟩
  rw [← hx] at hg
  have HXX := Lib.hid hx
  have X := Lib.hid hg
  have HV := Lib.hid hV2
  clear ha hg hV2 hx
  clear HB KB RX
  have HB := nHB
  have KB := nKB
  have RX := nRX
  clear nHB nKB nRX
  have LEX := Lib.hid (show W.heap.size ≤ x from by rw [HXX.out]; exact LB.out)
  clear LB
  go_upto_region 5 with (refine storeX (.tmp 4) (.tmp 16) _ (envC x1 r) _ tyEnv rfl (envC_one _ _) (heap_alloc_new _ _) rfl rfl rfl rfl rfl ?_; rw [setRowG_fold])
  rw [← HV.out]
  (try rw [← HXX.out])
  clear HV HXX
  go_wp2_with fail
  refine (CF.out _ KB.out).mono ?_
  rintro e w3 ⟨⟨x2, rfl, hk⟩, hb⟩
  have nHB := Lib.hid (belG HB.out hb HB.out.size)
  have nKB := Lib.hid (KB.out.go hb)
  have nRX := Lib.hid (RX.out.go hb)
  have nX := Lib.hid (Bx.go X.out hb)
  clear hb
  clear HB KB RX X
  have HB := nHB
  have KB := nKB
  have RX := nRX
  have X := nX
  clear nHB nKB nRX nX
  have RY := Lib.hid hk
  clear hk
  have LB := Lib.hid HB.out.size
  have LTX := Lib.hid (show x < w3.heap.size from Bx.lt X.out)
  obtain ⟨V3, hV3⟩ : ∃ V, V = w3.alloc (.cells (envC x2 r) 25) := ⟨_, rfl⟩
  have ha := (Below.refl w3.heap.size w3).alloc (Nat.le_refl _) (.cells (envC x2 r) 25)
  have hg := heap_alloc_new w3 (.cells (envC x2 r) 25)
  have nHB := Lib.hid (HB.out.alloc HB.out.size (.cells (envC x2 r) 25))
  rw [← hV3] at ha hg nHB
  have nKB := Lib.hid (KB.out.go ha)
  have nRX := Lib.hid (RX.out.go ha)
  have nRY := Lib.hid (RY.out.go ha)
  have nX := Lib.hid (Bx.go X.out ha)
  obtain ⟨y, hy⟩ : ∃ g, g = w3.heap.size := ⟨_, rfl⟩
  rw [← hy] at hg
  have HXY := Lib.hid hy
  have Y := Lib.hid hg
  have HV := Lib.hid hV3
  clear ha hg hV3 hy
  clear HB KB RX RY X
  have HB := nHB
  have KB := nKB
  have RX := nRX
  have RY := nRY
  have X := nX
  clear nHB nKB nRX nRY nX
  have LEY := Lib.hid (show W.heap.size ≤ y from by rw [HXY.out]; exact LB.out)
  have NEXY := Lib.hid (show x ≠ y from by have h1 := LTX.out; rw [HXY.out]; omega)
  have NEYX := Lib.hid (NEXY.out.symm)
  clear LB LTX
  go_upto_region 6 with (refine storeX (.tmp 6) (.tmp 21) _ (envC x2 r) _ tyEnv rfl (envC_one _ _) (heap_alloc_new _ _) rfl rfl rfl rfl rfl ?_; rw [setRowG_fold])
  rw [← HV.out]
  (try rw [← HXY.out])
  clear HV HXY
  go_wp2_with (first | (refine loadX (.tmp 4) x (envC x1 r) tyEnv rfl X.out rfl rfl rfl ?_) | (refine loadX (.tmp 6) y (envC x2 r) tyEnv rfl Y.out rfl rfl rfl ?_))
  refine (same12_any x1 x2 r r _ RX.out RY.out).mono ?_
  rintro e w4 ⟨rfl, hb⟩
  have nHB := Lib.hid (belG HB.out hb HB.out.size)
  have nKB := Lib.hid (KB.out.go hb)
  have nRX := Lib.hid (RX.out.go hb)
  have nRY := Lib.hid (RY.out.go hb)
  have nX := Lib.hid (Bx.go X.out hb)
  have nY := Lib.hid (Bx.go Y.out hb)
  clear hb
  clear HB KB RX RY X Y
  have HB := nHB
  have KB := nKB
  have RX := nRX
  have RY := nRY
  have X := nX
  have Y := nY
  clear nHB nKB nRX nRY nX nY
  rw [decide_eq_true (rfl : r = r)]
  go_wp2_with fail
  go_ret
  exact ⟨by first | rfl | (simp; done), HB.out⟩
end Go.Proofs.Ytjkkceecagbjjaa
