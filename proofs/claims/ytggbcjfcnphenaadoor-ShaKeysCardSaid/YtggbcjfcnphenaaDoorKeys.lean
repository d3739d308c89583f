/- Key and Right, in both; New of the document. -/
import Derived.Test.YtggbcjfcnphenaaDoorOf
namespace Go.Proofs.YtggbcjfcnphenaaDoor
open Go.RowKit

def keyF (i : Int) : UInt32 := if 0 ≤ i ∧ i < 64 then ksAt i.toNat else 0
theorem keyF_no {i : Int} (h : i < 0 ∨ 64 ≤ i) : keyF i = 0 := by unfold keyF; rw [if_neg (by omega)]
theorem keyF_yes {j : Nat} (h : j < 64) : keyF (j : Int) = ksAt j := by unfold keyF; rw [if_pos (by omega), Int.toNat_natCast]

theorem key_any (i : Int) (w : World) (hk : Ks w) :
    Calls Tryd.prog 19 #[.int .i64 i] w fun e w' => e = .returned (wv (keyF i)) ∧ w = w' := by
  by_cases h : i < 0
  · rw [keyF_no (.inl h)]
    go_enter Tryd.func19, Tryd.ntmps19
    go_wp2
    go_ret
    exact ⟨rfl, rfl⟩
  · by_cases h64 : 64 ≤ i
    · rw [keyF_no (.inr h64)]
      have hd : decide (i < 0) = false := by simpa using h
      go_enter Tryd.func19, Tryd.ntmps19
      go_wp2
      go_ret
      exact ⟨rfl, rfl⟩
    · obtain ⟨j, rfl⟩ := Int.eq_ofNat_of_zero_le (show 0 ≤ i by omega)
      have hj : j < 64 := by omega
      rw [keyF_yes hj]
      have hc := hk.2 j hj
      generalize ksAt j = x at *
      have hd : decide ((j : Int) < 0) = false := by simp
      have hd2 : decide (64 ≤ (j : Int)) = false := by simp; omega
      have hji : (j : Int) < 64 := by omega
      clear h h64 hk
      go_enter Tryd.func19, Tryd.ntmps19
      go_wp2
      go_ret
      exact ⟨rfl, rfl⟩

def rightB (N : Int) (n : Nat) : Bool := decide (0 ≤ N ∧ N ≤ 1125899906842624 ∧ (n : Int) = N % 64)

set_option maxRecDepth 100000 in
theorem right_is (s : St) (N : Int) (A : Option Addr) (n c : Nat) (w : World) (_hn : n ≤ 9223372036854775807) :
    Calls Tryd.prog 22 #[hv s N (.slice A n c)] w fun e w' => e = .returned (.bool (rightB N n)) ∧ Below w.heap.size w w' := by
  by_cases ha : 0 ≤ N
  · by_cases hb : N ≤ 1125899906842624
    · obtain ⟨m, hm⟩ : ∃ m : Nat, (m : Int) = N % 64 := ⟨(N % 64).toNat, by omega⟩
      by_cases hc : n = m
      · have e : rightB N n = true := by unfold rightB; exact decide_eq_true ⟨ha, hb, by omega⟩
        have he : ((n : Int) == N % 64) = true := by rw [← hm, hc]; simp
        rw [e]
        clear e hm hc
        go_enter Tryd.func22, Tryd.ntmps22
        go_wp2
        go_ret
        exact ⟨rfl, (Below.refl _ _).alloc (Nat.le_refl _) _⟩
      · have e : rightB N n = false := by unfold rightB; exact decide_eq_false (by omega)
        have he : ((n : Int) == N % 64) = false := by rw [← hm]; simp; omega
        rw [e]
        clear e hm hc
        go_enter Tryd.func22, Tryd.ntmps22
        go_wp2
        go_ret
        exact ⟨rfl, (Below.refl _ _).alloc (Nat.le_refl _) _⟩
    · have e : rightB N n = false := by unfold rightB; exact decide_eq_false (by omega)
      have hd : decide (N ≤ 1125899906842624) = false := by simpa using hb
      rw [e]
      clear e
      go_enter Tryd.func22, Tryd.ntmps22
      go_wp2
      go_ret
      exact ⟨rfl, (Below.refl _ _).alloc (Nat.le_refl _) _⟩
  · have e : rightB N n = false := by unfold rightB; exact decide_eq_false (by omega)
    have hd : decide (0 ≤ N) = false := by simpa using ha
    rw [e]
    clear e
    go_enter Tryd.func22, Tryd.ntmps22
    go_wp2
    go_ret
    exact ⟨rfl, (Below.refl _ _).alloc (Nat.le_refl _) _⟩

set_option maxRecDepth 100000 in
theorem refRight_is (s : St) (N : Int) (A : Option Addr) (n c : Nat) (w : World) (_hn : n ≤ 9223372036854775807) :
    Calls Tryd.prog 21 #[hv s N (.slice A n c)] w fun e w' => e = .returned (.bool (rightB N n)) ∧ Below w.heap.size w w' := by
  by_cases ha : 0 ≤ N
  · by_cases hb : N ≤ 1125899906842624
    · obtain ⟨m, hm⟩ : ∃ m : Nat, (m : Int) = N % 64 := ⟨(N % 64).toNat, by omega⟩
      by_cases hc : n = m
      · have e : rightB N n = true := by unfold rightB; exact decide_eq_true ⟨ha, hb, by omega⟩
        have he : ((n : Int) == N % 64) = true := by rw [← hm, hc]; simp
        rw [e]
        clear e hm hc
        go_enter Tryd.func21, Tryd.ntmps21
        go_wp2
        go_ret
        exact ⟨rfl, (Below.refl _ _).alloc (Nat.le_refl _) _⟩
      · have e : rightB N n = false := by unfold rightB; exact decide_eq_false (by omega)
        have he : ((n : Int) == N % 64) = false := by rw [← hm]; simp; omega
        rw [e]
        clear e hm hc
        go_enter Tryd.func21, Tryd.ntmps21
        go_wp2
        go_ret
        exact ⟨rfl, (Below.refl _ _).alloc (Nat.le_refl _) _⟩
    · have e : rightB N n = false := by unfold rightB; exact decide_eq_false (by omega)
      have hd : decide (N ≤ 1125899906842624) = false := by simpa using hb
      rw [e]
      clear e
      go_enter Tryd.func21, Tryd.ntmps21
      go_wp2
      go_ret
      exact ⟨rfl, (Below.refl _ _).alloc (Nat.le_refl _) _⟩
  · have e : rightB N n = false := by unfold rightB; exact decide_eq_false (by omega)
    have hd : decide (0 ≤ N) = false := by simpa using ha
    rw [e]
    clear e
    go_enter Tryd.func21, Tryd.ntmps21
    go_wp2
    go_ret
    exact ⟨rfl, (Below.refl _ _).alloc (Nat.le_refl _) _⟩

set_option maxRecDepth 100000 in
theorem refNew_any (w : World) : Calls Tryd.prog 18 #[] w fun e w' => e = .returned (hv h0 0 (.slice none 0 0)) ∧ Below w.heap.size w w' := by
  go_enter Tryd.func18, Tryd.ntmps18
  go_wp2
  (try simp only [Exit.inBlock, Exit.then])
  refine bodyPost_ret (retH rfl _ _ w.heap.size h0 0 (.slice none 0 0) rfl (heap_alloc_new w _)) rfl ?_
  exact ⟨rfl, (Below.refl _ _).alloc (Nat.le_refl _) _⟩
end Go.Proofs.YtggbcjfcnphenaaDoor
