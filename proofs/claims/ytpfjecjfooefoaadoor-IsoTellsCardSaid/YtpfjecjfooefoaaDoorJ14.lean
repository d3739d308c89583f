
/- The document's answers: count, fits, Fits. -/
import Derived.Test.YtpfjecjfooefoaaDoorJ13
namespace Go.Proofs.YtpfjecjfooefoaaDoor
open Go.RowKit

set_option maxRecDepth 100000 in
theorem refCount_any (k : Nat) (hk : k ≤ 7) (w : World) : Calls Tryd.prog 80 #[.int .i64 (k : Int)] w fun e w' => e = .returned (.int .i64 (cntF k : Int)) ∧ w = w' := by
  have h : k = 0 ∨ k = 1 ∨ k = 2 ∨ k = 3 ∨ k = 4 ∨ k = 5 ∨ k = 6 ∨ k = 7 := by omega
  rcases h with rfl | rfl | rfl | rfl | rfl | rfl | rfl | rfl
  all_goals
    go_enter Tryd.func80, Tryd.ntmps80
    go_wp2
    go_ret
    exact ⟨rfl, rfl⟩

set_option maxRecDepth 100000 in
theorem all_take_succ (p : UInt8 → Bool) (l : List UInt8) (k : Nat) (h : k < l.length) : (l.take (k + 1)).all p = ((l.take k).all p && p l[k]) := by
  rw [List.take_succ_eq_append_getElem h, List.all_append]
  simp
set_option maxRecDepth 100000 in
theorem all_false (p : UInt8 → Bool) (l : List UInt8) (k : Nat) (h : k < l.length) (hp : p l[k] = false) : l.all p = false := by
  rw [Bool.eq_false_iff]
  intro h1
  rw [List.all_eq_true] at h1
  have := h1 _ (List.getElem_mem h)
  rw [hp] at this
  cases this

set_option maxRecDepth 100000 in
set_option maxHeartbeats 2000000 in
theorem refFits0 (n : Nat) (A : Option Addr) (v : List UInt8) (c : Nat) (W : World) (_hn : n ≤ 1000) (hl : v.length ≤ 1000000) (hr : Rd W W.heap.size A v) :
    Calls Tryd.prog 79 #[.agg #[.int .i64 0, .int .i64 (n : Int)], .slice A v.length c] W fun e W' => e = .returned (.bool (fitF 0 n v)) ∧ Below W.heap.size W W' := by
  obtain ⟨F, hF⟩ : ∃ F, F = fitF 0 n v := ⟨_, rfl⟩
  rw [← hF]
  have HF := Lib.hid hF
  obtain ⟨m, hm⟩ : ∃ m, m = v.length := ⟨_, rfl⟩
  rw [← hm] at hl ⊢
  have HM := Lib.hid hm
  obtain ⟨V, hV⟩ : ∃ V, V = W.alloc (.cells #[.int .i64 0, .int .i64 (n : Int)] 95) := ⟨_, rfl⟩
  have hb : Below W.heap.size W V := by rw [hV]; exact (Below.refl _ _).alloc (Nat.le_refl _) _
  obtain ⟨x0, x1⟩ := cells2 (show V.heap[W.heap.size]? = some (.cells #[.int .i64 0, .int .i64 (n : Int)] 95 (0, 0)) by rw [hV]; exact heap_alloc_new W _)
  have HB := Lib.hid hb
  have HR := Lib.hid (hr.below hb (Nat.le_refl _))
  have HV := Lib.hid hV
  clear hr hb hV hm hF
  go_enter Tryd.func79, Tryd.ntmps79
  go_wp2
  rw [← HV.out]
  clear HV
  obtain ⟨g, hg⟩ : ∃ g, g = W.heap.size := ⟨_, rfl⟩
  rw [← hg] at x0 x1 ⊢
  have HG := Lib.hid hg
  clear hg
  go_loop [5] (fun i => ∃ j : Nat, j ≤ m ∧ i = .int .i64 j ∧ Hid ((v.take j).all (sgnF 0) = true)) (fun i => m - (intOf i).toNat)
  case atStart => exact ⟨0, Nat.zero_le _, rfl, Lib.hid rfl⟩
  case round =>
    obtain ⟨j, hj, rfl, hall⟩ := hrel
    by_cases hlt : j < m
    · have hjl : j < v.length := by have := HM.out; omega
      obtain ⟨b, o, rfl, hbb, hcell⟩ := HR.out (by omega)
      have hc := hcell j hjl
      have hs := all_take_succ (sgnF 0) v j hjl
      have hf := all_false (sgnF 0) v j hjl
      obtain ⟨z, hz⟩ : ∃ z, z = v[j] := ⟨_, rfl⟩
      rw [← hz] at hc hs hf
      rw [hall.out, Bool.true_and] at hs
      have hji : (j : Int) < (m : Int) := by omega
      clear hcell hz hbb
      have hsg : sgnF 0 z = (isFig z) := rfl
      by_cases h1 : z.toNat < 48
      · have i1 : (z.toNat : Int) < 48 := by omega
        have HX := Lib.hid (show F = false by
          rw [HF.out]; unfold fitF
          rw [hf (by rw [hsg]; unfold isFig; rw [decide_eq_false (show ¬ 48 ≤ z.toNat by omega), Bool.false_and]), Bool.false_and])
        clear hs hf hsg h1
        go_wp2
        go_ret
        exact ⟨by rw [HX.out]; rfl, HB.out⟩
      by_cases h2 : 57 < z.toNat
      · have i1 : ¬ (z.toNat : Int) < 48 := by omega
        have i2 : (57 : Int) < (z.toNat : Int) := by omega
        have HX := Lib.hid (show F = false by
          rw [HF.out]; unfold fitF
          rw [hf (by rw [hsg]; unfold isFig; rw [decide_eq_false (show ¬ z.toNat ≤ 57 by omega), Bool.and_false]), Bool.false_and])
        clear hs hf hsg h1 h2
        go_wp2
        go_ret
        exact ⟨by rw [HX.out]; rfl, HB.out⟩
      have i1 : ¬ (z.toNat : Int) < 48 := by omega
      have i2 : ¬ (57 : Int) < (z.toNat : Int) := by omega
      have HX := Lib.hid (show (v.take (j + 1)).all (sgnF 0) = true by rw [hs, hsg]; exact (isFig_iff z).2 (by omega))
      clear hs hf hsg h1 h2
      go_wp2
      go_round
      case rel => exact ⟨j + 1, by omega, by go_num, HX⟩
      case measure => simp [intOf]; omega
    · have hji : ¬ (j : Int) < (m : Int) := by omega
      have hall2 : v.all (sgnF 0) = true := by have := hall.out; rwa [List.take_of_length_le (by have := HM.out; omega)] at this
      have HX := Lib.hid (show F = (decide (1 ≤ m) && decide (m ≤ n)) by
        rw [HF.out, HM.out]; unfold fitF
        rw [hall2, Bool.true_and]; rfl)
      clear hall2
      by_cases h1 : 1 ≤ m
      · have i1 : (1 : Int) ≤ (m : Int) := by omega
        by_cases h2 : m ≤ n
        · have i2 : (m : Int) ≤ (n : Int) := by omega
          have HY := Lib.hid (show F = true by rw [HX.out, decide_eq_true h1, decide_eq_true h2]; rfl)
          clear h1 h2
          go_wp2
          go_ret
          exact ⟨by rw [HY.out]; rfl, HB.out⟩
        · have i2 : ¬ (m : Int) ≤ (n : Int) := by omega
          have HY := Lib.hid (show F = false by rw [HX.out, decide_eq_false h2, Bool.and_false])
          clear h1 h2
          go_wp2
          go_ret
          exact ⟨by rw [HY.out]; rfl, HB.out⟩
      · have i1 : ¬ (1 : Int) ≤ (m : Int) := by omega
        have HY := Lib.hid (show F = false by rw [HX.out, decide_eq_false h1, Bool.false_and])
        clear h1
        go_wp2
        go_ret
        exact ⟨by rw [HY.out]; rfl, HB.out⟩

set_option maxRecDepth 100000 in
set_option maxHeartbeats 2000000 in
theorem refFits1 (n : Nat) (A : Option Addr) (v : List UInt8) (c : Nat) (W : World) (_hn : n ≤ 1000) (hl : v.length ≤ 1000000) (hr : Rd W W.heap.size A v) :
    Calls Tryd.prog 79 #[.agg #[.int .i64 1, .int .i64 (n : Int)], .slice A v.length c] W fun e W' => e = .returned (.bool (fitF 1 n v)) ∧ Below W.heap.size W W' := by
  obtain ⟨F, hF⟩ : ∃ F, F = fitF 1 n v := ⟨_, rfl⟩
  rw [← hF]
  have HF := Lib.hid hF
  obtain ⟨m, hm⟩ : ∃ m, m = v.length := ⟨_, rfl⟩
  rw [← hm] at hl ⊢
  have HM := Lib.hid hm
  obtain ⟨V, hV⟩ : ∃ V, V = W.alloc (.cells #[.int .i64 1, .int .i64 (n : Int)] 95) := ⟨_, rfl⟩
  have hb : Below W.heap.size W V := by rw [hV]; exact (Below.refl _ _).alloc (Nat.le_refl _) _
  obtain ⟨x0, x1⟩ := cells2 (show V.heap[W.heap.size]? = some (.cells #[.int .i64 1, .int .i64 (n : Int)] 95 (0, 0)) by rw [hV]; exact heap_alloc_new W _)
  have HB := Lib.hid hb
  have HR := Lib.hid (hr.below hb (Nat.le_refl _))
  have HV := Lib.hid hV
  clear hr hb hV hm hF
  go_enter Tryd.func79, Tryd.ntmps79
  go_wp2
  rw [← HV.out]
  clear HV
  obtain ⟨g, hg⟩ : ∃ g, g = W.heap.size := ⟨_, rfl⟩
  rw [← hg] at x0 x1 ⊢
  have HG := Lib.hid hg
  clear hg
  go_loop [5] (fun i => ∃ j : Nat, j ≤ m ∧ i = .int .i64 j ∧ Hid ((v.take j).all (sgnF 1) = true)) (fun i => m - (intOf i).toNat)
  case atStart => exact ⟨0, Nat.zero_le _, rfl, Lib.hid rfl⟩
  case round =>
    obtain ⟨j, hj, rfl, hall⟩ := hrel
    by_cases hlt : j < m
    · have hjl : j < v.length := by have := HM.out; omega
      obtain ⟨b, o, rfl, hbb, hcell⟩ := HR.out (by omega)
      have hc := hcell j hjl
      have hs := all_take_succ (sgnF 1) v j hjl
      have hf := all_false (sgnF 1) v j hjl
      obtain ⟨z, hz⟩ : ∃ z, z = v[j] := ⟨_, rfl⟩
      rw [← hz] at hc hs hf
      rw [hall.out, Bool.true_and] at hs
      have hji : (j : Int) < (m : Int) := by omega
      clear hcell hz hbb
      have hsg : sgnF 1 z = (isFig z) := rfl
      by_cases h1 : z.toNat < 48
      · have i1 : (z.toNat : Int) < 48 := by omega
        have HX := Lib.hid (show F = false by
          rw [HF.out]; unfold fitF
          rw [hf (by rw [hsg]; unfold isFig; rw [decide_eq_false (show ¬ 48 ≤ z.toNat by omega), Bool.false_and]), Bool.false_and])
        clear hs hf hsg h1
        go_wp2
        go_ret
        exact ⟨by rw [HX.out]; rfl, HB.out⟩
      by_cases h2 : 57 < z.toNat
      · have i1 : ¬ (z.toNat : Int) < 48 := by omega
        have i2 : (57 : Int) < (z.toNat : Int) := by omega
        have HX := Lib.hid (show F = false by
          rw [HF.out]; unfold fitF
          rw [hf (by rw [hsg]; unfold isFig; rw [decide_eq_false (show ¬ z.toNat ≤ 57 by omega), Bool.and_false]), Bool.false_and])
        clear hs hf hsg h1 h2
        go_wp2
        go_ret
        exact ⟨by rw [HX.out]; rfl, HB.out⟩
      have i1 : ¬ (z.toNat : Int) < 48 := by omega
      have i2 : ¬ (57 : Int) < (z.toNat : Int) := by omega
      have HX := Lib.hid (show (v.take (j + 1)).all (sgnF 1) = true by rw [hs, hsg]; exact (isFig_iff z).2 (by omega))
      clear hs hf hsg h1 h2
      go_wp2
      go_round
      case rel => exact ⟨j + 1, by omega, by go_num, HX⟩
      case measure => simp [intOf]; omega
    · have hji : ¬ (j : Int) < (m : Int) := by omega
      have hall2 : v.all (sgnF 1) = true := by have := hall.out; rwa [List.take_of_length_le (by have := HM.out; omega)] at this
      have HX := Lib.hid (show F = decide (m = n) by
        rw [HF.out, HM.out]; unfold fitF
        rw [hall2, Bool.true_and]; rfl)
      clear hall2
      by_cases h1 : m = n
      · have i1 : ((m : Int) == (n : Int)) = true := beq_iff_eq.2 (by omega)
        have HY := Lib.hid (HX.out.trans (decide_eq_true h1))
        clear h1
        go_wp2
        go_ret
        exact ⟨by rw [HY.out]; rfl, HB.out⟩
      · have i1 : ((m : Int) == (n : Int)) = false := beq_eq_false_iff_ne.2 (by omega)
        have HY := Lib.hid (HX.out.trans (decide_eq_false h1))
        clear h1
        go_wp2
        go_ret
        exact ⟨by rw [HY.out]; rfl, HB.out⟩

set_option maxRecDepth 100000 in
set_option maxHeartbeats 2000000 in
theorem refFits2 (n : Nat) (A : Option Addr) (v : List UInt8) (c : Nat) (W : World) (_hn : n ≤ 1000) (hl : v.length ≤ 1000000) (hr : Rd W W.heap.size A v) :
    Calls Tryd.prog 79 #[.agg #[.int .i64 2, .int .i64 (n : Int)], .slice A v.length c] W fun e W' => e = .returned (.bool (fitF 2 n v)) ∧ Below W.heap.size W W' := by
  obtain ⟨F, hF⟩ : ∃ F, F = fitF 2 n v := ⟨_, rfl⟩
  rw [← hF]
  have HF := Lib.hid hF
  obtain ⟨m, hm⟩ : ∃ m, m = v.length := ⟨_, rfl⟩
  rw [← hm] at hl ⊢
  have HM := Lib.hid hm
  obtain ⟨V, hV⟩ : ∃ V, V = W.alloc (.cells #[.int .i64 2, .int .i64 (n : Int)] 95) := ⟨_, rfl⟩
  have hb : Below W.heap.size W V := by rw [hV]; exact (Below.refl _ _).alloc (Nat.le_refl _) _
  obtain ⟨x0, x1⟩ := cells2 (show V.heap[W.heap.size]? = some (.cells #[.int .i64 2, .int .i64 (n : Int)] 95 (0, 0)) by rw [hV]; exact heap_alloc_new W _)
  have HB := Lib.hid hb
  have HR := Lib.hid (hr.below hb (Nat.le_refl _))
  have HV := Lib.hid hV
  clear hr hb hV hm hF
  go_enter Tryd.func79, Tryd.ntmps79
  go_wp2
  rw [← HV.out]
  clear HV
  obtain ⟨g, hg⟩ : ∃ g, g = W.heap.size := ⟨_, rfl⟩
  rw [← hg] at x0 x1 ⊢
  have HG := Lib.hid hg
  clear hg
  go_loop [5] (fun i => ∃ j : Nat, j ≤ m ∧ i = .int .i64 j ∧ Hid ((v.take j).all (sgnF 2) = true)) (fun i => m - (intOf i).toNat)
  case atStart => exact ⟨0, Nat.zero_le _, rfl, Lib.hid rfl⟩
  case round =>
    obtain ⟨j, hj, rfl, hall⟩ := hrel
    by_cases hlt : j < m
    · have hjl : j < v.length := by have := HM.out; omega
      obtain ⟨b, o, rfl, hbb, hcell⟩ := HR.out (by omega)
      have hc := hcell j hjl
      have hs := all_take_succ (sgnF 2) v j hjl
      have hf := all_false (sgnF 2) v j hjl
      obtain ⟨z, hz⟩ : ∃ z, z = v[j] := ⟨_, rfl⟩
      rw [← hz] at hc hs hf
      rw [hall.out, Bool.true_and] at hs
      have hji : (j : Int) < (m : Int) := by omega
      clear hcell hz hbb
      have hsg : sgnF 2 z = (isFig z) := rfl
      by_cases h1 : z.toNat < 48
      · have i1 : (z.toNat : Int) < 48 := by omega
        have HX := Lib.hid (show F = false by
          rw [HF.out]; unfold fitF
          rw [hf (by rw [hsg]; unfold isFig; rw [decide_eq_false (show ¬ 48 ≤ z.toNat by omega), Bool.false_and]), Bool.false_and])
        clear hs hf hsg h1
        go_wp2
        go_ret
        exact ⟨by rw [HX.out]; rfl, HB.out⟩
      by_cases h2 : 57 < z.toNat
      · have i1 : ¬ (z.toNat : Int) < 48 := by omega
        have i2 : (57 : Int) < (z.toNat : Int) := by omega
        have HX := Lib.hid (show F = false by
          rw [HF.out]; unfold fitF
          rw [hf (by rw [hsg]; unfold isFig; rw [decide_eq_false (show ¬ z.toNat ≤ 57 by omega), Bool.and_false]), Bool.false_and])
        clear hs hf hsg h1 h2
        go_wp2
        go_ret
        exact ⟨by rw [HX.out]; rfl, HB.out⟩
      have i1 : ¬ (z.toNat : Int) < 48 := by omega
      have i2 : ¬ (57 : Int) < (z.toNat : Int) := by omega
      have HX := Lib.hid (show (v.take (j + 1)).all (sgnF 2) = true by rw [hs, hsg]; exact (isFig_iff z).2 (by omega))
      clear hs hf hsg h1 h2
      go_wp2
      go_round
      case rel => exact ⟨j + 1, by omega, by go_num, HX⟩
      case measure => simp [intOf]; omega
    · have hji : ¬ (j : Int) < (m : Int) := by omega
      have hall2 : v.all (sgnF 2) = true := by have := hall.out; rwa [List.take_of_length_le (by have := HM.out; omega)] at this
      have HX := Lib.hid (show F = (decide (1 ≤ m) && decide (m ≤ n)) by
        rw [HF.out, HM.out]; unfold fitF
        rw [hall2, Bool.true_and]; rfl)
      clear hall2
      by_cases h1 : 1 ≤ m
      · have i1 : (1 : Int) ≤ (m : Int) := by omega
        by_cases h2 : m ≤ n
        · have i2 : (m : Int) ≤ (n : Int) := by omega
          have HY := Lib.hid (show F = true by rw [HX.out, decide_eq_true h1, decide_eq_true h2]; rfl)
          clear h1 h2
          go_wp2
          go_ret
          exact ⟨by rw [HY.out]; rfl, HB.out⟩
        · have i2 : ¬ (m : Int) ≤ (n : Int) := by omega
          have HY := Lib.hid (show F = false by rw [HX.out, decide_eq_false h2, Bool.and_false])
          clear h1 h2
          go_wp2
          go_ret
          exact ⟨by rw [HY.out]; rfl, HB.out⟩
      · have i1 : ¬ (1 : Int) ≤ (m : Int) := by omega
        have HY := Lib.hid (show F = false by rw [HX.out, decide_eq_false h1, Bool.false_and])
        clear h1
        go_wp2
        go_ret
        exact ⟨by rw [HY.out]; rfl, HB.out⟩

set_option maxRecDepth 100000 in
set_option maxHeartbeats 2000000 in
theorem refFits3 (n : Nat) (A : Option Addr) (v : List UInt8) (c : Nat) (W : World) (_hn : n ≤ 1000) (hl : v.length ≤ 1000000) (hr : Rd W W.heap.size A v) :
    Calls Tryd.prog 79 #[.agg #[.int .i64 3, .int .i64 (n : Int)], .slice A v.length c] W fun e W' => e = .returned (.bool (fitF 3 n v)) ∧ Below W.heap.size W W' := by
  obtain ⟨F, hF⟩ : ∃ F, F = fitF 3 n v := ⟨_, rfl⟩
  rw [← hF]
  have HF := Lib.hid hF
  obtain ⟨m, hm⟩ : ∃ m, m = v.length := ⟨_, rfl⟩
  rw [← hm] at hl ⊢
  have HM := Lib.hid hm
  obtain ⟨V, hV⟩ : ∃ V, V = W.alloc (.cells #[.int .i64 3, .int .i64 (n : Int)] 95) := ⟨_, rfl⟩
  have hb : Below W.heap.size W V := by rw [hV]; exact (Below.refl _ _).alloc (Nat.le_refl _) _
  obtain ⟨x0, x1⟩ := cells2 (show V.heap[W.heap.size]? = some (.cells #[.int .i64 3, .int .i64 (n : Int)] 95 (0, 0)) by rw [hV]; exact heap_alloc_new W _)
  have HB := Lib.hid hb
  have HR := Lib.hid (hr.below hb (Nat.le_refl _))
  have HV := Lib.hid hV
  clear hr hb hV hm hF
  go_enter Tryd.func79, Tryd.ntmps79
  go_wp2
  rw [← HV.out]
  clear HV
  obtain ⟨g, hg⟩ : ∃ g, g = W.heap.size := ⟨_, rfl⟩
  rw [← hg] at x0 x1 ⊢
  have HG := Lib.hid hg
  clear hg
  go_loop [5] (fun i => ∃ j : Nat, j ≤ m ∧ i = .int .i64 j ∧ Hid ((v.take j).all (sgnF 3) = true)) (fun i => m - (intOf i).toNat)
  case atStart => exact ⟨0, Nat.zero_le _, rfl, Lib.hid rfl⟩
  case round =>
    obtain ⟨j, hj, rfl, hall⟩ := hrel
    by_cases hlt : j < m
    · have hjl : j < v.length := by have := HM.out; omega
      obtain ⟨b, o, rfl, hbb, hcell⟩ := HR.out (by omega)
      have hc := hcell j hjl
      have hs := all_take_succ (sgnF 3) v j hjl
      have hf := all_false (sgnF 3) v j hjl
      obtain ⟨z, hz⟩ : ∃ z, z = v[j] := ⟨_, rfl⟩
      rw [← hz] at hc hs hf
      rw [hall.out, Bool.true_and] at hs
      have hji : (j : Int) < (m : Int) := by omega
      clear hcell hz hbb
      have hsg : sgnF 3 z = (decide (32 ≤ z.toNat) && decide (z.toNat ≤ 126)) := rfl
      by_cases h1 : z.toNat < 32
      · have i1 : (z.toNat : Int) < 32 := by omega
        have HX := Lib.hid (show F = false by
          rw [HF.out]; unfold fitF
          rw [hf (by rw [hsg]; rw [decide_eq_false (show ¬ 32 ≤ z.toNat by omega), Bool.false_and]), Bool.false_and])
        clear hs hf hsg h1
        go_wp2
        go_ret
        exact ⟨by rw [HX.out]; rfl, HB.out⟩
      by_cases h2 : 126 < z.toNat
      · have i1 : ¬ (z.toNat : Int) < 32 := by omega
        have i2 : (126 : Int) < (z.toNat : Int) := by omega
        have HX := Lib.hid (show F = false by
          rw [HF.out]; unfold fitF
          rw [hf (by rw [hsg]; rw [decide_eq_false (show ¬ z.toNat ≤ 126 by omega), Bool.and_false]), Bool.false_and])
        clear hs hf hsg h1 h2
        go_wp2
        go_ret
        exact ⟨by rw [HX.out]; rfl, HB.out⟩
      have i1 : ¬ (z.toNat : Int) < 32 := by omega
      have i2 : ¬ (126 : Int) < (z.toNat : Int) := by omega
      have HX := Lib.hid (show (v.take (j + 1)).all (sgnF 3) = true by rw [hs, hsg]; rw [decide_eq_true (show 32 ≤ z.toNat by omega), decide_eq_true (show z.toNat ≤ 126 by omega)]; rfl)
      clear hs hf hsg h1 h2
      go_wp2
      go_round
      case rel => exact ⟨j + 1, by omega, by go_num, HX⟩
      case measure => simp [intOf]; omega
    · have hji : ¬ (j : Int) < (m : Int) := by omega
      have hall2 : v.all (sgnF 3) = true := by have := hall.out; rwa [List.take_of_length_le (by have := HM.out; omega)] at this
      have HX := Lib.hid (show F = decide (m = n) by
        rw [HF.out, HM.out]; unfold fitF
        rw [hall2, Bool.true_and]; rfl)
      clear hall2
      by_cases h1 : m = n
      · have i1 : ((m : Int) == (n : Int)) = true := beq_iff_eq.2 (by omega)
        have HY := Lib.hid (HX.out.trans (decide_eq_true h1))
        clear h1
        go_wp2
        go_ret
        exact ⟨by rw [HY.out]; rfl, HB.out⟩
      · have i1 : ((m : Int) == (n : Int)) = false := beq_eq_false_iff_ne.2 (by omega)
        have HY := Lib.hid (HX.out.trans (decide_eq_false h1))
        clear h1
        go_wp2
        go_ret
        exact ⟨by rw [HY.out]; rfl, HB.out⟩

set_option maxRecDepth 100000 in
set_option maxHeartbeats 2000000 in
theorem refFits4 (n : Nat) (A : Option Addr) (v : List UInt8) (c : Nat) (W : World) (_hn : n ≤ 1000) (hl : v.length ≤ 1000000) (hr : Rd W W.heap.size A v) :
    Calls Tryd.prog 79 #[.agg #[.int .i64 4, .int .i64 (n : Int)], .slice A v.length c] W fun e W' => e = .returned (.bool (fitF 4 n v)) ∧ Below W.heap.size W W' := by
  obtain ⟨F, hF⟩ : ∃ F, F = fitF 4 n v := ⟨_, rfl⟩
  rw [← hF]
  have HF := Lib.hid hF
  obtain ⟨m, hm⟩ : ∃ m, m = v.length := ⟨_, rfl⟩
  rw [← hm] at hl ⊢
  have HM := Lib.hid hm
  obtain ⟨V, hV⟩ : ∃ V, V = W.alloc (.cells #[.int .i64 4, .int .i64 (n : Int)] 95) := ⟨_, rfl⟩
  have hb : Below W.heap.size W V := by rw [hV]; exact (Below.refl _ _).alloc (Nat.le_refl _) _
  obtain ⟨x0, x1⟩ := cells2 (show V.heap[W.heap.size]? = some (.cells #[.int .i64 4, .int .i64 (n : Int)] 95 (0, 0)) by rw [hV]; exact heap_alloc_new W _)
  have HB := Lib.hid hb
  have HR := Lib.hid (hr.below hb (Nat.le_refl _))
  have HV := Lib.hid hV
  clear hr hb hV hm hF
  go_enter Tryd.func79, Tryd.ntmps79
  go_wp2
  rw [← HV.out]
  clear HV
  obtain ⟨g, hg⟩ : ∃ g, g = W.heap.size := ⟨_, rfl⟩
  rw [← hg] at x0 x1 ⊢
  have HG := Lib.hid hg
  clear hg
  go_loop [5] (fun i => ∃ j : Nat, j ≤ m ∧ i = .int .i64 j ∧ Hid ((v.take j).all (sgnF 4) = true)) (fun i => m - (intOf i).toNat)
  case atStart => exact ⟨0, Nat.zero_le _, rfl, Lib.hid rfl⟩
  case round =>
    obtain ⟨j, hj, rfl, hall⟩ := hrel
    by_cases hlt : j < m
    · have hjl : j < v.length := by have := HM.out; omega
      obtain ⟨b, o, rfl, hbb, hcell⟩ := HR.out (by omega)
      have hc := hcell j hjl
      have hs := all_take_succ (sgnF 4) v j hjl
      have hf := all_false (sgnF 4) v j hjl
      obtain ⟨z, hz⟩ : ∃ z, z = v[j] := ⟨_, rfl⟩
      rw [← hz] at hc hs hf
      rw [hall.out, Bool.true_and] at hs
      have hji : (j : Int) < (m : Int) := by omega
      clear hcell hz hbb
      have hsg : sgnF 4 z = (decide (32 ≤ z.toNat) && decide (z.toNat ≤ 126)) := rfl
      by_cases h1 : z.toNat < 32
      · have i1 : (z.toNat : Int) < 32 := by omega
        have HX := Lib.hid (show F = false by
          rw [HF.out]; unfold fitF
          rw [hf (by rw [hsg]; rw [decide_eq_false (show ¬ 32 ≤ z.toNat by omega), Bool.false_and]), Bool.false_and])
        clear hs hf hsg h1
        go_wp2
        go_ret
        exact ⟨by rw [HX.out]; rfl, HB.out⟩
      by_cases h2 : 126 < z.toNat
      · have i1 : ¬ (z.toNat : Int) < 32 := by omega
        have i2 : (126 : Int) < (z.toNat : Int) := by omega
        have HX := Lib.hid (show F = false by
          rw [HF.out]; unfold fitF
          rw [hf (by rw [hsg]; rw [decide_eq_false (show ¬ z.toNat ≤ 126 by omega), Bool.and_false]), Bool.false_and])
        clear hs hf hsg h1 h2
        go_wp2
        go_ret
        exact ⟨by rw [HX.out]; rfl, HB.out⟩
      have i1 : ¬ (z.toNat : Int) < 32 := by omega
      have i2 : ¬ (126 : Int) < (z.toNat : Int) := by omega
      have HX := Lib.hid (show (v.take (j + 1)).all (sgnF 4) = true by rw [hs, hsg]; rw [decide_eq_true (show 32 ≤ z.toNat by omega), decide_eq_true (show z.toNat ≤ 126 by omega)]; rfl)
      clear hs hf hsg h1 h2
      go_wp2
      go_round
      case rel => exact ⟨j + 1, by omega, by go_num, HX⟩
      case measure => simp [intOf]; omega
    · have hji : ¬ (j : Int) < (m : Int) := by omega
      have hall2 : v.all (sgnF 4) = true := by have := hall.out; rwa [List.take_of_length_le (by have := HM.out; omega)] at this
      have HX := Lib.hid (show F = (decide (1 ≤ m) && decide (m ≤ n)) by
        rw [HF.out, HM.out]; unfold fitF
        rw [hall2, Bool.true_and]; rfl)
      clear hall2
      by_cases h1 : 1 ≤ m
      · have i1 : (1 : Int) ≤ (m : Int) := by omega
        by_cases h2 : m ≤ n
        · have i2 : (m : Int) ≤ (n : Int) := by omega
          have HY := Lib.hid (show F = true by rw [HX.out, decide_eq_true h1, decide_eq_true h2]; rfl)
          clear h1 h2
          go_wp2
          go_ret
          exact ⟨by rw [HY.out]; rfl, HB.out⟩
        · have i2 : ¬ (m : Int) ≤ (n : Int) := by omega
          have HY := Lib.hid (show F = false by rw [HX.out, decide_eq_false h2, Bool.and_false])
          clear h1 h2
          go_wp2
          go_ret
          exact ⟨by rw [HY.out]; rfl, HB.out⟩
      · have i1 : ¬ (1 : Int) ≤ (m : Int) := by omega
        have HY := Lib.hid (show F = false by rw [HX.out, decide_eq_false h1, Bool.false_and])
        clear h1
        go_wp2
        go_ret
        exact ⟨by rw [HY.out]; rfl, HB.out⟩

set_option maxRecDepth 100000 in
set_option maxHeartbeats 2000000 in
theorem refFits5 (n : Nat) (A : Option Addr) (v : List UInt8) (c : Nat) (W : World) (_hn : n ≤ 1000) (hl : v.length ≤ 1000000) (hr : Rd W W.heap.size A v) :
    Calls Tryd.prog 79 #[.agg #[.int .i64 5, .int .i64 (n : Int)], .slice A v.length c] W fun e W' => e = .returned (.bool (fitF 5 n v)) ∧ Below W.heap.size W W' := by
  obtain ⟨F, hF⟩ : ∃ F, F = fitF 5 n v := ⟨_, rfl⟩
  rw [← hF]
  have HF := Lib.hid hF
  obtain ⟨m, hm⟩ : ∃ m, m = v.length := ⟨_, rfl⟩
  rw [← hm] at hl ⊢
  have HM := Lib.hid hm
  obtain ⟨V, hV⟩ : ∃ V, V = W.alloc (.cells #[.int .i64 5, .int .i64 (n : Int)] 95) := ⟨_, rfl⟩
  have hb : Below W.heap.size W V := by rw [hV]; exact (Below.refl _ _).alloc (Nat.le_refl _) _
  obtain ⟨x0, x1⟩ := cells2 (show V.heap[W.heap.size]? = some (.cells #[.int .i64 5, .int .i64 (n : Int)] 95 (0, 0)) by rw [hV]; exact heap_alloc_new W _)
  have HB := Lib.hid hb
  have HR := Lib.hid (hr.below hb (Nat.le_refl _))
  have HV := Lib.hid hV
  clear hr hb hV hm hF
  go_enter Tryd.func79, Tryd.ntmps79
  go_wp2
  rw [← HV.out]
  clear HV
  obtain ⟨g, hg⟩ : ∃ g, g = W.heap.size := ⟨_, rfl⟩
  rw [← hg] at x0 x1 ⊢
  have HG := Lib.hid hg
  clear hg
  go_loop [5] (fun i => ∃ j : Nat, j ≤ m ∧ i = .int .i64 j ∧ Hid ((v.take j).all (sgnF 5) = true)) (fun i => m - (intOf i).toNat)
  case atStart => exact ⟨0, Nat.zero_le _, rfl, Lib.hid rfl⟩
  case round =>
    obtain ⟨j, hj, rfl, hall⟩ := hrel
    by_cases hlt : j < m
    · have hjl : j < v.length := by have := HM.out; omega
      obtain ⟨b, o, rfl, hbb, hcell⟩ := HR.out (by omega)
      have hc := hcell j hjl
      have hs := all_take_succ (sgnF 5) v j hjl
      have hf := all_false (sgnF 5) v j hjl
      obtain ⟨z, hz⟩ : ∃ z, z = v[j] := ⟨_, rfl⟩
      rw [← hz] at hc hs hf
      rw [hall.out, Bool.true_and] at hs
      have hji : (j : Int) < (m : Int) := by omega
      clear hcell hz hbb
      have hsg : sgnF 5 z = (decide (32 ≤ z.toNat) && decide (z.toNat ≤ 126)) := rfl
      by_cases h1 : z.toNat < 32
      · have i1 : (z.toNat : Int) < 32 := by omega
        have HX := Lib.hid (show F = false by
          rw [HF.out]; unfold fitF
          rw [hf (by rw [hsg]; rw [decide_eq_false (show ¬ 32 ≤ z.toNat by omega), Bool.false_and]), Bool.false_and])
        clear hs hf hsg h1
        go_wp2
        go_ret
        exact ⟨by rw [HX.out]; rfl, HB.out⟩
      by_cases h2 : 126 < z.toNat
      · have i1 : ¬ (z.toNat : Int) < 32 := by omega
        have i2 : (126 : Int) < (z.toNat : Int) := by omega
        have HX := Lib.hid (show F = false by
          rw [HF.out]; unfold fitF
          rw [hf (by rw [hsg]; rw [decide_eq_false (show ¬ z.toNat ≤ 126 by omega), Bool.and_false]), Bool.false_and])
        clear hs hf hsg h1 h2
        go_wp2
        go_ret
        exact ⟨by rw [HX.out]; rfl, HB.out⟩
      have i1 : ¬ (z.toNat : Int) < 32 := by omega
      have i2 : ¬ (126 : Int) < (z.toNat : Int) := by omega
      have HX := Lib.hid (show (v.take (j + 1)).all (sgnF 5) = true by rw [hs, hsg]; rw [decide_eq_true (show 32 ≤ z.toNat by omega), decide_eq_true (show z.toNat ≤ 126 by omega)]; rfl)
      clear hs hf hsg h1 h2
      go_wp2
      go_round
      case rel => exact ⟨j + 1, by omega, by go_num, HX⟩
      case measure => simp [intOf]; omega
    · have hji : ¬ (j : Int) < (m : Int) := by omega
      have hall2 : v.all (sgnF 5) = true := by have := hall.out; rwa [List.take_of_length_le (by have := HM.out; omega)] at this
      have HX := Lib.hid (show F = (decide (1 ≤ m) && decide (m ≤ n)) by
        rw [HF.out, HM.out]; unfold fitF
        rw [hall2, Bool.true_and]; rfl)
      clear hall2
      by_cases h1 : 1 ≤ m
      · have i1 : (1 : Int) ≤ (m : Int) := by omega
        by_cases h2 : m ≤ n
        · have i2 : (m : Int) ≤ (n : Int) := by omega
          have HY := Lib.hid (show F = true by rw [HX.out, decide_eq_true h1, decide_eq_true h2]; rfl)
          clear h1 h2
          go_wp2
          go_ret
          exact ⟨by rw [HY.out]; rfl, HB.out⟩
        · have i2 : ¬ (m : Int) ≤ (n : Int) := by omega
          have HY := Lib.hid (show F = false by rw [HX.out, decide_eq_false h2, Bool.and_false])
          clear h1 h2
          go_wp2
          go_ret
          exact ⟨by rw [HY.out]; rfl, HB.out⟩
      · have i1 : ¬ (1 : Int) ≤ (m : Int) := by omega
        have HY := Lib.hid (show F = false by rw [HX.out, decide_eq_false h1, Bool.false_and])
        clear h1
        go_wp2
        go_ret
        exact ⟨by rw [HY.out]; rfl, HB.out⟩

set_option maxRecDepth 100000 in
set_option maxHeartbeats 2000000 in
theorem refFits6 (n : Nat) (A : Option Addr) (v : List UInt8) (c : Nat) (W : World) (_hn : n ≤ 1000) (hl : v.length ≤ 1000000) (hr : Rd W W.heap.size A v) :
    Calls Tryd.prog 79 #[.agg #[.int .i64 6, .int .i64 (n : Int)], .slice A v.length c] W fun e W' => e = .returned (.bool (fitF 6 n v)) ∧ Below W.heap.size W W' := by
  obtain ⟨F, hF⟩ : ∃ F, F = fitF 6 n v := ⟨_, rfl⟩
  rw [← hF]
  have HF := Lib.hid hF
  obtain ⟨m, hm⟩ : ∃ m, m = v.length := ⟨_, rfl⟩
  rw [← hm] at hl ⊢
  have HM := Lib.hid hm
  obtain ⟨V, hV⟩ : ∃ V, V = W.alloc (.cells #[.int .i64 6, .int .i64 (n : Int)] 95) := ⟨_, rfl⟩
  have hb : Below W.heap.size W V := by rw [hV]; exact (Below.refl _ _).alloc (Nat.le_refl _) _
  obtain ⟨x0, x1⟩ := cells2 (show V.heap[W.heap.size]? = some (.cells #[.int .i64 6, .int .i64 (n : Int)] 95 (0, 0)) by rw [hV]; exact heap_alloc_new W _)
  have HB := Lib.hid hb
  have HR := Lib.hid (hr.below hb (Nat.le_refl _))
  have HV := Lib.hid hV
  clear hr hb hV hm hF
  go_enter Tryd.func79, Tryd.ntmps79
  go_wp2
  rw [← HV.out]
  clear HV
  obtain ⟨g, hg⟩ : ∃ g, g = W.heap.size := ⟨_, rfl⟩
  rw [← hg] at x0 x1 ⊢
  have HG := Lib.hid hg
  clear hg
  go_loop [5] (fun i => ∃ j : Nat, j ≤ m ∧ i = .int .i64 j ∧ Hid ((v.take j).all (sgnF 6) = true)) (fun i => m - (intOf i).toNat)
  case atStart => exact ⟨0, Nat.zero_le _, rfl, Lib.hid rfl⟩
  case round =>
    obtain ⟨j, hj, rfl, hall⟩ := hrel
    by_cases hlt : j < m
    · have hjl : j < v.length := by have := HM.out; omega
      obtain ⟨b, o, rfl, hbb, hcell⟩ := HR.out (by omega)
      have hc := hcell j hjl
      have hs := all_take_succ (sgnF 6) v j hjl
      have hf := all_false (sgnF 6) v j hjl
      obtain ⟨z, hz⟩ : ∃ z, z = v[j] := ⟨_, rfl⟩
      rw [← hz] at hc hs hf
      rw [hall.out, Bool.true_and] at hs
      have hji : (j : Int) < (m : Int) := by omega
      clear hcell hz hbb
      have HX := Lib.hid (show (v.take (j + 1)).all (sgnF 6) = true by rw [hs]; rfl)
      clear hs hf
      go_wp2
      go_round
      case rel => exact ⟨j + 1, by omega, by go_num, HX⟩
      case measure => simp [intOf]; omega
    · have hji : ¬ (j : Int) < (m : Int) := by omega
      have hall2 : v.all (sgnF 6) = true := by have := hall.out; rwa [List.take_of_length_le (by have := HM.out; omega)] at this
      have HX := Lib.hid (show F = decide (m = n) by
        rw [HF.out, HM.out]; unfold fitF
        rw [hall2, Bool.true_and]; rfl)
      clear hall2
      by_cases h1 : m = n
      · have i1 : ((m : Int) == (n : Int)) = true := beq_iff_eq.2 (by omega)
        have HY := Lib.hid (HX.out.trans (decide_eq_true h1))
        clear h1
        go_wp2
        go_ret
        exact ⟨by rw [HY.out]; rfl, HB.out⟩
      · have i1 : ((m : Int) == (n : Int)) = false := beq_eq_false_iff_ne.2 (by omega)
        have HY := Lib.hid (HX.out.trans (decide_eq_false h1))
        clear h1
        go_wp2
        go_ret
        exact ⟨by rw [HY.out]; rfl, HB.out⟩

set_option maxRecDepth 100000 in
set_option maxHeartbeats 2000000 in
theorem refFits7 (n : Nat) (A : Option Addr) (v : List UInt8) (c : Nat) (W : World) (_hn : n ≤ 1000) (hl : v.length ≤ 1000000) (hr : Rd W W.heap.size A v) :
    Calls Tryd.prog 79 #[.agg #[.int .i64 7, .int .i64 (n : Int)], .slice A v.length c] W fun e W' => e = .returned (.bool (fitF 7 n v)) ∧ Below W.heap.size W W' := by
  obtain ⟨F, hF⟩ : ∃ F, F = fitF 7 n v := ⟨_, rfl⟩
  rw [← hF]
  have HF := Lib.hid hF
  obtain ⟨m, hm⟩ : ∃ m, m = v.length := ⟨_, rfl⟩
  rw [← hm] at hl ⊢
  have HM := Lib.hid hm
  obtain ⟨V, hV⟩ : ∃ V, V = W.alloc (.cells #[.int .i64 7, .int .i64 (n : Int)] 95) := ⟨_, rfl⟩
  have hb : Below W.heap.size W V := by rw [hV]; exact (Below.refl _ _).alloc (Nat.le_refl _) _
  obtain ⟨x0, x1⟩ := cells2 (show V.heap[W.heap.size]? = some (.cells #[.int .i64 7, .int .i64 (n : Int)] 95 (0, 0)) by rw [hV]; exact heap_alloc_new W _)
  have HB := Lib.hid hb
  have HR := Lib.hid (hr.below hb (Nat.le_refl _))
  have HV := Lib.hid hV
  clear hr hb hV hm hF
  go_enter Tryd.func79, Tryd.ntmps79
  go_wp2
  rw [← HV.out]
  clear HV
  obtain ⟨g, hg⟩ : ∃ g, g = W.heap.size := ⟨_, rfl⟩
  rw [← hg] at x0 x1 ⊢
  have HG := Lib.hid hg
  clear hg
  go_loop [5] (fun i => ∃ j : Nat, j ≤ m ∧ i = .int .i64 j ∧ Hid ((v.take j).all (sgnF 7) = true)) (fun i => m - (intOf i).toNat)
  case atStart => exact ⟨0, Nat.zero_le _, rfl, Lib.hid rfl⟩
  case round =>
    obtain ⟨j, hj, rfl, hall⟩ := hrel
    by_cases hlt : j < m
    · have hjl : j < v.length := by have := HM.out; omega
      obtain ⟨b, o, rfl, hbb, hcell⟩ := HR.out (by omega)
      have hc := hcell j hjl
      have hs := all_take_succ (sgnF 7) v j hjl
      have hf := all_false (sgnF 7) v j hjl
      obtain ⟨z, hz⟩ : ∃ z, z = v[j] := ⟨_, rfl⟩
      rw [← hz] at hc hs hf
      rw [hall.out, Bool.true_and] at hs
      have hji : (j : Int) < (m : Int) := by omega
      clear hcell hz hbb
      have HX := Lib.hid (show (v.take (j + 1)).all (sgnF 7) = true by rw [hs]; rfl)
      clear hs hf
      go_wp2
      go_round
      case rel => exact ⟨j + 1, by omega, by go_num, HX⟩
      case measure => simp [intOf]; omega
    · have hji : ¬ (j : Int) < (m : Int) := by omega
      have hall2 : v.all (sgnF 7) = true := by have := hall.out; rwa [List.take_of_length_le (by have := HM.out; omega)] at this
      have HX := Lib.hid (show F = (decide (1 ≤ m) && decide (m ≤ n)) by
        rw [HF.out, HM.out]; unfold fitF
        rw [hall2, Bool.true_and]; rfl)
      clear hall2
      by_cases h1 : 1 ≤ m
      · have i1 : (1 : Int) ≤ (m : Int) := by omega
        by_cases h2 : m ≤ n
        · have i2 : (m : Int) ≤ (n : Int) := by omega
          have HY := Lib.hid (show F = true by rw [HX.out, decide_eq_true h1, decide_eq_true h2]; rfl)
          clear h1 h2
          go_wp2
          go_ret
          exact ⟨by rw [HY.out]; rfl, HB.out⟩
        · have i2 : ¬ (m : Int) ≤ (n : Int) := by omega
          have HY := Lib.hid (show F = false by rw [HX.out, decide_eq_false h2, Bool.and_false])
          clear h1 h2
          go_wp2
          go_ret
          exact ⟨by rw [HY.out]; rfl, HB.out⟩
      · have i1 : ¬ (1 : Int) ≤ (m : Int) := by omega
        have HY := Lib.hid (show F = false by rw [HX.out, decide_eq_false h1, Bool.false_and])
        clear h1
        go_wp2
        go_ret
        exact ⟨by rw [HY.out]; rfl, HB.out⟩

set_option maxRecDepth 100000 in
theorem refFits_any (k n : Nat) (A : Option Addr) (v : List UInt8) (c : Nat) (W : World) (hk : k ≤ 7) (hn : n ≤ 1000) (hl : v.length ≤ 1000000) (hr : Rd W W.heap.size A v) :
    Calls Tryd.prog 79 #[.agg #[.int .i64 (k : Int), .int .i64 (n : Int)], .slice A v.length c] W fun e W' => e = .returned (.bool (fitF k n v)) ∧ Below W.heap.size W W' := by
  have h : k = 0 ∨ k = 1 ∨ k = 2 ∨ k = 3 ∨ k = 4 ∨ k = 5 ∨ k = 6 ∨ k = 7 := by omega
  rcases h with rfl | rfl | rfl | rfl | rfl | rfl | rfl | rfl
  · exact refFits0 n A v c W hn hl hr
  · exact refFits1 n A v c W hn hl hr
  · exact refFits2 n A v c W hn hl hr
  · exact refFits3 n A v c W hn hl hr
  · exact refFits4 n A v c W hn hl hr
  · exact refFits5 n A v c W hn hl hr
  · exact refFits6 n A v c W hn hl hr
  · exact refFits7 n A v c W hn hl hr
set_option maxRecDepth 100000 in
theorem form_le (no : Int) : fk no ≤ 7 ∧ fl no ≤ 400 := by rcases form_bd no with ⟨h1, h2⟩ | ⟨h1, h2, h3, h4, h5⟩ <;> omega

set_option maxRecDepth 100000 in
theorem refFitsNo_any (no : Int) (A : Option Addr) (v : List UInt8) (c : Nat) (W : World) (hl : v.length ≤ 1000000) (hr : Rd W W.heap.size A v) :
    Calls Tryd.prog 49 #[.int .i64 no, .slice A v.length c] W fun e W' => e = .returned (.bool (fitsF no v)) ∧ Below W.heap.size W W' := by
  have CO := Lib.hid (refOf_any no)
  have CF := Lib.hid (fun w (h : Below W.heap.size W w) => refFits_any (fk no) (fl no) A v c w (form_le no).1 (by have := (form_le no).2; omega) hl ((hr.below h (Nat.le_refl _)).more h.size))
  have HN := Lib.hid (fun (h : fk no = 0) => fits_none (v := v) h)
  have HU := Lib.hid (show fitF (fk no) (fl no) v = fitsF no v from rfl)
  rw [HU.out] at CF
  obtain ⟨X, hX⟩ : ∃ X, X = fitsF no v := ⟨_, rfl⟩
  rw [← hX] at CF HN ⊢
  clear HU hX hl hr
  generalize fk no = k at *
  generalize fl no = n at *
  generalize v.length = m at *
  by_cases hk : k = 0
  · have HE := Lib.hid (HN.out hk)
    have e0 : decide (k ≠ 0) = false := decide_eq_false (by omega)
    rw [e0] at CO
    clear e0 HN hk
    go_enter Tryd.func49, Tryd.ntmps49
    go_wp2_with fail
    refine (CO.out _).mono ?_
    rintro e w1 ⟨rfl, hb⟩
    have HB := Lib.hid (bel5 (Below.refl _ _) hb (Nat.le_refl _))
    clear hb CO
    go_wp2_with fail
    have HB2 := Lib.hid (HB.out.alloc HB.out.size (.cells #[.int .i64 (k : Int), .int .i64 (n : Int)] 95))
    refine (CF.out _ HB2.out).mono ?_
    rintro e w2 ⟨rfl, hb⟩
    have HB3 := Lib.hid (bel5 HB2.out hb HB2.out.size)
    clear hb CF HB2
    go_wp2
    go_ret
    exact ⟨by rw [HE.out]; rfl, HB3.out⟩
  · have e0 : decide (k ≠ 0) = true := decide_eq_true hk
    rw [e0] at CO
    clear e0 HN hk
    go_enter Tryd.func49, Tryd.ntmps49
    go_wp2_with fail
    refine (CO.out _).mono ?_
    rintro e w1 ⟨rfl, hb⟩
    have HB := Lib.hid (bel5 (Below.refl _ _) hb (Nat.le_refl _))
    clear hb CO
    go_wp2_with fail
    have HB2 := Lib.hid (HB.out.alloc HB.out.size (.cells #[.int .i64 (k : Int), .int .i64 (n : Int)] 95))
    refine (CF.out _ HB2.out).mono ?_
    rintro e w2 ⟨rfl, hb⟩
    have HB3 := Lib.hid (bel5 HB2.out hb HB2.out.size)
    clear hb CF HB2
    go_wp2
    go_ret
    exact ⟨rfl, HB3.out⟩
end Go.Proofs.YtpfjecjfooefoaaDoor
