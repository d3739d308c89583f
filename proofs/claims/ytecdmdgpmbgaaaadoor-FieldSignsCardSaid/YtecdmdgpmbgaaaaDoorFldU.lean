
/- field.mayBe, field.fits. -/
import Derived.Test.YtecdmdgpmbgaaaaDoorFldR
namespace Go.Proofs.YtecdmdgpmbgaaaaDoor
open Go.RowKit

theorem cnt0 (k : Nat) (h1 : 1 ≤ k) (h7 : k ≤ 7) : cntF k = 0 ↔ (k = 1 ∨ k = 3 ∨ k = 6) := by
  have h : k = 1 ∨ k = 2 ∨ k = 3 ∨ k = 4 ∨ k = 5 ∨ k = 6 ∨ k = 7 := by omega
  rcases h with rfl | rfl | rfl | rfl | rfl | rfl | rfl <;> decide
theorem foldS (W : World) (a b : Array Value) (t : TypeId) : (W.alloc (.cells a t)).setRow W.heap.size b = W.alloc (.cells b t) := by
  simp only [World.setRow, World.alloc]
  congr 1
  apply Array.ext_getElem?
  intro i
  simp only [Array.getElem?_modify]
  by_cases h : W.heap.size = i
  · subst h; simp
  · have h' : ¬ i = W.heap.size := fun e => h e.symm
    rw [if_neg h]
    simp [Array.getElem?_push, h']

theorem mayBe_any (k n m g : Nat) (h1 : 1 ≤ k) (h7 : k ≤ 7) (W : World) :
    Calls Tryd.prog 36 #[shV k g, .int .i64 (n : Int), .int .i64 (m : Int)] W fun e W' => e = .returned (.bool (lenF k m n)) ∧ Below W.heap.size W W' := by
  have h0 := cnt0 k h1 h7
  unfold lenF shV mayV
  generalize decide (k ≤ 2) = P at *
  obtain ⟨L, hL⟩ : ∃ L, L = cntF k := ⟨_, rfl⟩
  rw [← hL] at h0 ⊢
  clear hL
  have HB := Lib.hid (fun (o : Obj) => (Below.refl W.heap.size W).alloc (Nat.le_refl _) o)
  by_cases hz : L = 0
  · rw [if_pos (h0.1 hz)]
    clear h0
    have hz0 : (L : Int) = 0 := by omega
    have he : (decide ((n : Int) = (m : Int))) = decide (n = m) := by
      by_cases h : n = m
      · rw [decide_eq_true h, decide_eq_true (by omega)]
      · rw [decide_eq_false h, decide_eq_false (by omega)]
    have hq : ((n : Int) == (m : Int)) = decide (n = m) := by
      rw [← he]; rfl
    clear he
    go_enter Tryd.func36, Tryd.ntmps36
    go_wp2
    go_ret
    exact ⟨by first | rfl | rw [hq], HB.out _⟩
  · rw [if_neg (fun h => hz (h0.2 h))]
    clear h0
    have hz0 : ¬ (L : Int) = 0 := by omega
    by_cases a : 1 ≤ n
    · have ai : (1 : Int) ≤ (n : Int) := by omega
      rw [decide_eq_true a]
      by_cases b : n ≤ m
      · have bi : (n : Int) ≤ (m : Int) := by omega
        rw [decide_eq_true b]
        clear a b
        go_enter Tryd.func36, Tryd.ntmps36
        go_wp2
        go_ret
        exact ⟨rfl, HB.out _⟩
      · have bi : ¬ (n : Int) ≤ (m : Int) := by omega
        rw [decide_eq_false b]
        clear a b
        go_enter Tryd.func36, Tryd.ntmps36
        go_wp2
        go_ret
        exact ⟨rfl, HB.out _⟩
    · have ai : ¬ (1 : Int) ≤ (n : Int) := by omega
      rw [decide_eq_false a]
      clear a
      go_enter Tryd.func36, Tryd.ntmps36
      go_wp2
      go_ret
      exact ⟨rfl, HB.out _⟩

set_option maxRecDepth 100000 in
set_option maxHeartbeats 1000000 in
theorem fits5_any (k n : Nat) (A : Option Addr) (v : List UInt8) (c : Nat) (h1 : 1 ≤ k) (h7 : k ≤ 7) (W : World) (hl : v.length ≤ 1000000) (hr : Rd W W.heap.size A v) :
    Calls Tryd.prog 22 #[.agg #[.int .i64 (k : Int), .int .i64 (n : Int)], .slice A v.length c] W fun e W' => e = .returned (.bool (fitF k n v)) ∧ Below W.heap.size W W' := by
  have CS := Lib.hid (fun w => shapeOf_any k h1 h7 w)
  have CL := Lib.hid (fun (g : Nat) w => mayBe_any k v.length n g h1 h7 w)
  have CM := Lib.hid (fun (lo hi c : UInt8) g w => may_any lo hi c g w)
  have HSG := Lib.hid (fun c => sgn_may k c)
  have HFIT := Lib.hid (show (v.all (sgnF k) && lenF k n v.length) = fitF k n v from rfl)
  have RB := Lib.hid (fun w (h : Below W.heap.size W w) (j : Nat) (hj : j < v.length) => ((hr.below h (Nat.le_refl _)).more h.size).at_ hj)
  unfold shV at CS CL
  unfold mayV at CS CL
  obtain ⟨lo, hlo⟩ : ∃ x, x = loF k := ⟨_, rfl⟩
  obtain ⟨hi, hhi⟩ : ∃ x, x = hiF k := ⟨_, rfl⟩
  rw [← hlo, ← hhi] at CS HSG
  obtain ⟨R, hR⟩ : ∃ R, R = fitF k n v := ⟨_, rfl⟩
  rw [← hR] at HFIT ⊢
  obtain ⟨LN, hLN⟩ : ∃ R, R = lenF k n v.length := ⟨_, rfl⟩
  rw [← hLN] at HFIT CL
  generalize decide (k ≤ 2) = P at *
  generalize cntF k = L at *
  obtain ⟨m, hm⟩ : ∃ m, m = v.length := ⟨_, rfl⟩
  have HM := Lib.hid hm
  rw [← hm] at hl CL ⊢
  have HB := Lib.hid ((Below.refl W.heap.size W).alloc (Nat.le_refl _) (.cells #[.int .i64 (k : Int), .int .i64 (n : Int)] 25))
  have HF := Lib.hid (heap_alloc_new W (.cells #[.int .i64 (k : Int), .int .i64 (n : Int)] 25))
  obtain ⟨V, hV⟩ : ∃ V, V = W.alloc (.cells #[.int .i64 (k : Int), .int .i64 (n : Int)] 25) := ⟨_, rfl⟩
  rw [← hV] at HB HF
  have HV := Lib.hid hV
  clear hr h1 h7 hlo hhi hR hLN hm hV
  obtain ⟨f0, f1⟩ := cells2 HF.out
  go_enter Tryd.func22, Tryd.ntmps22
  go_wp2_with fail
  rw [← HV.out]
  refine (CS.out _).mono ?_
  rintro e w1 ⟨⟨g, rfl, hm⟩, hb⟩
  have hb1 := bel5 HB.out hb HB.out.size
  have hf1 := old5 HF.out hb (Nat.le_refl _)
  have ha := (Below.refl w1.heap.size w1).alloc (Nat.le_refl _) (.cells #[.int .i64 (L : Int), .bool P, (.func (.func 46) #[] #[.pointer (some ⟨g, 0, none⟩), .pointer (some ⟨g + 1, 0, none⟩)])] 61)
  have HS := Lib.hid (heap_alloc_new w1 (.cells #[.int .i64 (L : Int), .bool P, (.func (.func 46) #[] #[.pointer (some ⟨g, 0, none⟩), .pointer (some ⟨g + 1, 0, none⟩)])] 61))
  have HB2 := Lib.hid (hb1.alloc hb1.size (.cells #[.int .i64 (L : Int), .bool P, (.func (.func 46) #[] #[.pointer (some ⟨g, 0, none⟩), .pointer (some ⟨g + 1, 0, none⟩)])] 61))
  have HF2 := Lib.hid (old5 hf1 ha (Nat.le_refl _))
  have HM2 := Lib.hid (MayC.old hm ha (Nat.le_refl _))
  obtain ⟨V2, hV2⟩ : ∃ V, V = w1.alloc (.cells #[.int .i64 (L : Int), .bool P, (.func (.func 46) #[] #[.pointer (some ⟨g, 0, none⟩), .pointer (some ⟨g + 1, 0, none⟩)])] 61) := ⟨_, rfl⟩
  rw [← hV2] at HS HB2 HF2 HM2
  have HV2 := Lib.hid hV2
  clear f0 f1 hm hb hb1 hf1 ha HV HB HF CS hV2
  obtain ⟨f0, f1⟩ := cells2 HF2.out
  obtain ⟨x0, x1, x2⟩ := cellsS HS.out
  go_wp2_with (with_reducible refine at_list5 ?_; first | (refine storeS _ (.tmp 5) (.tmp 10) w1.heap.size (.int .i64 (L : Int)) (.bool P) (.func (.func 46) #[] #[.pointer (some ⟨g, 0, none⟩), .pointer (some ⟨g + 1, 0, none⟩)]) #[.int .i64 0, .bool false, .nilFunc] (by exact heap_alloc_new w1 _) rfl (by simp [Value.oneCell']) rfl rfl rfl rfl ?_; rw [foldS, ← HV2.out]) | (refine loadS V2 (.tmp 5) w1.heap.size _ _ _ HS.out rfl rfl rfl ?_))
  refine (CL.out g V2).mono ?_
  rintro e w3 ⟨rfl, hb⟩
  have HB3 := Lib.hid (bel5 HB2.out hb HB2.out.size)
  have HM3 := Lib.hid (HM2.out.old hb (Nat.le_refl _))
  have HS3 := Lib.hid (old5 HS.out hb (Nat.le_refl _))
  clear f0 f1 x0 x1 x2 hb HS HB2 HF2 HM2 HV2 CL
  obtain ⟨x0, x1, x2⟩ := cellsS HS3.out
  obtain ⟨s, hs⟩ : ∃ s, s = w1.heap.size := ⟨_, rfl⟩
  rw [← hs] at x0 x1 x2 ⊢
  clear hs HS3
  cases LN with
  | false =>
    have HE := Lib.hid (show R = false by rw [← HFIT.out, Bool.and_false])
    clear x0 x1 x2
    go_wp2
    go_ret
    exact ⟨by rw [HE.out]; rfl, HB3.out⟩
  | true =>
    have HE := Lib.hid (show v.all (sgnF k) = R by rw [← HFIT.out, Bool.and_true])
    clear HFIT
    go_wp2
    go_loop [20] (fun i => ∃ j : Nat, j ≤ m ∧ i = .int .i64 j ∧ Hid (∀ q (h : q < v.length), q < j → sgnF k v[q] = true)) (fun i => m - (intOf i).toNat)
    case atStart => exact ⟨0, Nat.zero_le _, rfl, Lib.hid (fun q h hq => absurd hq (by omega))⟩
    case round =>
      obtain ⟨j, hj, rfl, hall⟩ := hrel
      by_cases hlt : j < m
      · have hjv : j < v.length := by rw [← HM.out]; exact hlt
        obtain ⟨b, o, rfl, hbb, hcell⟩ := RB.out w3 HB3.out j hjv
        have hji : (j : Int) < (m : Int) := by omega
        obtain ⟨z, hz⟩ : ∃ z, z = v[j] := ⟨_, rfl⟩
        rw [← hz] at hcell
        have HZ := Lib.hid hz
        have CC := Lib.hid (CM.out lo hi z g w3 HM3.out)
        rw [HSG.out z] at CC
        clear hz hbb
        cases hq : sgnF k z with
        | false =>
          have HQ := Lib.hid (show R = false by
            rw [← HE.out, List.all_eq_false]
            exact ⟨z, by rw [HZ.out]; exact List.getElem_mem _, by rw [hq]; simp⟩)
          rw [hq] at CC
          clear hq
          go_wp2_with fail
          refine CC.out.mono ?_
          rintro e w4 ⟨rfl, rfl⟩
          go_wp2
          go_ret
          exact ⟨by rw [HQ.out]; rfl, HB3.out⟩
        | true =>
          have HQ := Lib.hid (show ∀ q (h : q < v.length), q < j + 1 → sgnF k v[q] = true from fun q h hq2 => by
            by_cases e : q = j
            · subst e; rw [← HZ.out]; exact hq
            · exact hall.out q h (by omega))
          rw [hq] at CC
          clear hq hall
          go_wp2_with fail
          refine CC.out.mono ?_
          rintro e w4 ⟨rfl, rfl⟩
          go_wp2
          go_round
          case rel => exact ⟨j + 1, by omega, by go_num, HQ⟩
          case measure => simp [intOf]; omega
      · have hji : ¬ (j : Int) < (m : Int) := by omega
        have HQ := Lib.hid (show R = true by
          rw [← HE.out, List.all_eq_true]
          intro c hc
          obtain ⟨q, hq, rfl⟩ := List.getElem_of_mem hc
          exact hall.out q hq (by have := HM.out; omega))
        clear hall
        go_wp2
        go_ret
        exact ⟨by rw [HQ.out]; rfl, HB3.out⟩
end Go.Proofs.YtecdmdgpmbgaaaaDoor
