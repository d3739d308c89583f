/- The document's Long, at any bound; Rows. -/
import Derived.Test.YtgabcbifefokkaaDoorDerA
namespace Go.Proofs.YtgabcbifefokkaaDoor
open Go.RowKit

/-- what Long tells at M -/
def LongAt (M : Nat) (ls : List (List UInt8)) (e : Ending) : Prop := ∃ r : Int, e = .returned (.int .i64 r) ∧ (r ≤ M → ls.length + tot ls ls.length ≤ M)
set_option maxRecDepth 100000 in
theorem long_nilAt (M : Nat) (_hM : M ≤ 100000) (A : Option Addr) (c : Nat) (w : World) : Calls Tryd.prog 19 #[.slice A 0 c, .int .i64 M] w fun e w' => e = .returned (.int .i64 0) ∧ w = w' := by
  have h0 : ¬ (M : Int) < 0 := by omega
  go_enter Tryd.func19, Tryd.ntmps19
  go_wp2
  go_loop [5, 6] (fun s i => s = .int .i64 0 ∧ i = .int .i64 0) (fun _ _ => 0)
  case atStart => exact ⟨rfl, rfl⟩
  case round =>
    obtain ⟨rfl, rfl⟩ := hrel
    go_wp2
    go_ret
    exact ⟨rfl, rfl⟩
set_option maxRecDepth 100000 in
set_option maxHeartbeats 1000000 in
theorem long_at (M : Nat) (hM : M ≤ 100000) (A : Option Addr) (ls : List (List UInt8)) (c : Nat) (w : World) (hm : Mat w w.heap.size A ls) :
    Calls Tryd.prog 19 #[.slice A ls.length c, .int .i64 M] w fun e w' => LongAt M ls e ∧ w = w' := by
  have BIG : LongAt M ls (.returned (.int .i64 ((M : Int) + 1))) := ⟨_, rfl, fun h => by omega⟩
  obtain ⟨n, hn⟩ : ∃ n, n = ls.length := ⟨_, rfl⟩
  by_cases h0 : 0 < ls.length
  · obtain ⟨b, o, rfl, hb, hrow⟩ := hm h0
    have HROW := Lib.hid hrow
    have HN := Lib.hid hn
    rw [← hn] at h0 ⊢
    clear hm hrow hn
    by_cases hbig : M < n
    · have hbi : (M : Int) < (n : Int) := by omega
      go_enter Tryd.func19, Tryd.ntmps19
      go_wp2
      go_ret
      exact ⟨BIG, rfl⟩
    · have hbi : ¬ (M : Int) < (n : Int) := by omega
      have HT0 := Lib.hid (show n = n + tot ls 0 by unfold tot; simp)
      go_enter Tryd.func19, Tryd.ntmps19
      go_wp2
      go_loop [5, 6] (fun s i => ∃ k t : Nat, k ≤ n ∧ i = .int .i64 k ∧ s = .int .i64 t ∧ t ≤ M ∧ Hid (t = n + tot ls k)) (fun _ i => n - (intOf i).toNat)
      case atStart => exact ⟨0, n, by omega, rfl, rfl, by omega, HT0⟩
      case round =>
        obtain ⟨k, t, hk, rfl, rfl, ht, HT⟩ := hrel
        by_cases hlt : k < n
        · have hkl : k < ls.length := by rw [← HN.out]; exact hlt
          obtain ⟨A', c', hcell, hr1, hr2, _⟩ := HROW.out k hkl
          have HS := Lib.hid (tot_succ ls k hkl)
          obtain ⟨m, hm⟩ : ∃ m, m = ls[k].length := ⟨_, rfl⟩
          rw [← hm] at hcell hr1 HS
          clear hm
          have hki : (k : Int) < (n : Int) := by omega
          have hk0 : (0 : Int) ≤ (k : Int) := Int.natCast_nonneg _
          have hm1 : (m : Int) ≤ 9223372036854775807 := by omega
          have ht1 : (t : Int) ≤ (M : Int) := by omega
          by_cases hg : (M : Int) - (t : Int) < (m : Int)
          · go_wp2
            go_ret
            exact ⟨BIG, rfl⟩
          · go_wp2
            go_round
            case rel => exact ⟨k + 1, t + m, by omega, by go_num, by go_num, by omega, Lib.hid (by rw [HS.out, HT.out]; omega)⟩
            case measure => simp [intOf]; omega
        · have hkn : k = n := by omega
          have HK := Lib.hid hkn
          clear hkn
          go_wp2
          go_ret
          exact ⟨⟨t, rfl, fun _ => by have h1 := HT.out; rw [HK.out, HN.out] at h1; omega⟩, rfl⟩
  · obtain rfl : ls = [] := List.eq_nil_of_length_eq_zero (by omega)
    exact (long_nilAt M hM A c w).mono fun e w' ⟨h1, h2⟩ => ⟨⟨0, h1, fun _ => by unfold tot; simp⟩, h2⟩
end Go.Proofs.YtgabcbifefokkaaDoor
