
/- field.mayBe, field.fits. -/
import Derived.Test.YtpfjecjfooefoaaDoorJ30
import Derived.Test.YtpfjecjfooefoaaDoorJ05
import Derived.Test.YtpfjecjfooefoaaDoorJ28
import Derived.Test.YtpfjecjfooefoaaDoorJ24
namespace Go.Proofs.YtpfjecjfooefoaaDoor
open Go.RowKit

set_option maxRecDepth 100000 in
theorem cnt0 (k : Nat) (h1 : 1 ≤ k) (h7 : k ≤ 7) : cntF k = 0 ↔ (k = 1 ∨ k = 3 ∨ k = 6) := by
  have h : k = 1 ∨ k = 2 ∨ k = 3 ∨ k = 4 ∨ k = 5 ∨ k = 6 ∨ k = 7 := by omega
  rcases h with rfl | rfl | rfl | rfl | rfl | rfl | rfl <;> decide
set_option maxRecDepth 100000 in
theorem foldS (W : World) (a b : Array Value) (t : TypeId) : (W.alloc (.cells a t)).setRow W.heap.size b = W.alloc (.cells b t) := by
  simp only [World.setRow, World.alloc]
  congr 1
  apply Array.ext_getElem?
  intro i
  simp only [Array.getElem?_modify]
  by_cases h : W.heap.size = i
  · subst h; simp
  · have h' : ¬ i = W.heap.size := fun e => h e.symm
    rw [if_neg h]
    simp [Array.getElem?_push, h']

set_option maxRecDepth 100000 in
theorem mayBe_any (k n m g : Nat) (h1 : 1 ≤ k) (h7 : k ≤ 7) (W : World) :
    Calls Tryd.prog 99 #[shV k g, .int .i64 (n : Int), .int .i64 (m : Int)] W fun e W' => e = .returned (.bool (lenF k m n)) ∧ Below W.heap.size W W' := by
  have h0 := cnt0 k h1 h7
  unfold lenF shV mayV
  generalize decide (k ≤ 2) = P at *
  obtain ⟨L, hL⟩ : ∃ L, L = cntF k := ⟨_, rfl⟩
  rw [← hL] at h0 ⊢
  clear hL
  have HB := Lib.hid (fun (o : Obj) => (Below.refl W.heap.size W).alloc (Nat.le_refl _) o)
  by_cases hz : L = 0
  · rw [if_pos (h0.1 hz)]
    clear h0
    have hz0 : (L : Int) = 0 := by omega
    have he : (decide ((n : Int) = (m : Int))) = decide (n = m) := by
      by_cases h : n = m
      · rw [decide_eq_true h, decide_eq_true (by omega)]
      · rw [decide_eq_false h, decide_eq_false (by omega)]
    have hq : ((n : Int) == (m : Int)) = decide (n = m) := by
      rw [← he]; rfl
    clear he
    go_enter Tryd.func99, Tryd.ntmps99
    go_wp2
    go_ret
    exact ⟨by first | rfl | rw [hq], HB.out _⟩
  · rw [if_neg (fun h => hz (h0.2 h))]
    clear h0
    have hz0 : ¬ (L : Int) = 0 := by omega
    by_cases a : 1 ≤ n
    · have ai : (1 : Int) ≤ (n : Int) := by omega
      rw [decide_eq_true a]
      by_cases b : n ≤ m
      · have bi : (n : Int) ≤ (m : Int) := by omega
        rw [decide_eq_true b]
        clear a b
        go_enter Tryd.func99, Tryd.ntmps99
        go_wp2
        go_ret
        exact ⟨rfl, HB.out _⟩
      · have bi : ¬ (n : Int) ≤ (m : Int) := by omega
        rw [decide_eq_false b]
        clear a b
        go_enter Tryd.func99, Tryd.ntmps99
        go_wp2
        go_ret
        exact ⟨rfl, HB.out _⟩
    · have ai : ¬ (1 : Int) ≤ (n : Int) := by omega
      rw [decide_eq_false a]
      clear a
      go_enter Tryd.func99, Tryd.ntmps99
      go_wp2
      go_ret
      exact ⟨rfl, HB.out _⟩

set_option maxRecDepth 100000 in
set_option maxHeartbeats 1000000 in
theorem fits5_any (k n : Nat) (A : Option Addr) (v : List UInt8) (c : Nat) (h1 : 1 ≤ k) (h7 : k ≤ 7) (W : World) (hl : v.length ≤ 1000000) (hr : Rd W W.heap.size A v) :
    Calls Tryd.prog 75 #[.agg #[.int .i64 (k : Int), .int .i64 (n : Int)], .slice A v.length c] W fun e W' => e = .returned (.bool (fitF k n v)) ∧ Below W.heap.size W W' := by
  have CS := Lib.hid (fun w => shapeOf_any k h1 h7 w)
  have CL := Lib.hid (fun (g : Nat) w => mayBe_any k v.length n g h1 h7 w)
  have CM := Lib.hid (fun (lo hi c : UInt8) g w => may_any lo hi c g w)
  have HSG := Lib.hid (fun c => sgn_may k c)
  have HFIT := Lib.hid (show (v.all (sgnF k) && lenF k n v.length) = fitF k n v from rfl)
  have RB := Lib.hid (fun w (h : Below W.heap.size W w) (j : Nat) (hj : j < v.length) => ((hr.below h (Nat.le_refl _)).more h.size).at_ hj)
  unfold shV at CS CL
  unfold mayV at CS CL
  obtain ⟨lo, hlo⟩ : ∃ x, x = loF k := ⟨_, rfl⟩
  obtain ⟨hi, hhi⟩ : ∃ x, x = hiF k := ⟨_, rfl⟩
  rw [← hlo, ← hhi] at CS HSG
  obtain ⟨R, hR⟩ : ∃ R, R = fitF k n v := ⟨_, rfl⟩
  rw [← hR] at HFIT ⊢
  obtain ⟨LN, hLN⟩ : ∃ R, R = lenF k n v.length := ⟨_, rfl⟩
  rw [← hLN] at HFIT CL
  generalize decide (k ≤ 2) = P at *
  generalize cntF k = L at *
  obtain ⟨m, hm⟩ : ∃ m, m = v.length := ⟨_, rfl⟩
  have HM := Lib.hid hm
  rw [← hm] at hl CL ⊢
  have HB := Lib.hid ((Below.refl W.heap.size W).alloc (Nat.le_refl _) (.cells #[.int .i64 (k : Int), .int .i64 (n : Int)] 95))
  have HF := Lib.hid (heap_alloc_new W (.cells #[.int .i64 (k : Int), .int .i64 (n : Int)] 95))
  obtain ⟨V, hV⟩ : ∃ V, V = W.alloc (.cells #[.int .i64 (k : Int), .int .i64 (n : Int)] 95) := ⟨_, rfl⟩
  rw [← hV] at HB HF
  have HV := Lib.hid hV
  clear hr h1 h7 hlo hhi hR hLN hm hV
  obtain ⟨f0, f1⟩ := cells2 HF.out
  go_enter Tryd.func75, Tryd.ntmps75
  go_wp2_with fail
  rw [← HV.out]
  refine (CS.out _).mono ?_
  rintro e w1 ⟨⟨g, rfl, hm⟩, hb⟩
  have hb1 := bel5 HB.out hb HB.out.size
  have hf1 := old5 HF.out hb (Nat.le_refl _)
  have ha := (Below.refl w1.heap.size w1).alloc (Nat.le_refl _) (.cells #[.int .i64 (L : Int), .bool P, (.func (.func 108) #[] #[.pointer (some ⟨g, 0, none⟩), .pointer (some ⟨g + 1, 0, none⟩)])] 115)
  have HS := Lib.hid (heap_alloc_new w1 (.cells #[.int .i64 (L : Int), .bool P, (.func (.func 108) #[] #[.pointer (some ⟨g, 0, none⟩), .pointer (some ⟨g + 1, 0, none⟩)])] 115))
  have HB2 := Lib.hid (hb1.alloc hb1.size (.cells #[.int .i64 (L : Int), .bool P, (.func (.func 108) #[] #[.pointer (some ⟨g, 0, none⟩), .pointer (some ⟨g + 1, 0, none⟩)])] 115))
  have HF2 := Lib.hid (old5 hf1 ha (Nat.le_refl _))
  have HM2 := Lib.hid (MayC.old hm ha (Nat.le_refl _))
  obtain ⟨V2, hV2⟩ : ∃ V, V = w1.alloc (.cells #[.int .i64 (L : Int), .bool P, (.func (.func 108) #[] #[.pointer (some ⟨g, 0, none⟩), .pointer (some ⟨g + 1, 0, none⟩)])] 115) := ⟨_, rfl⟩
  rw [← hV2] at HS HB2 HF2 HM2
  have HV2 := Lib.hid hV2
  clear f0 f1 hm hb hb1 hf1 ha HV HB HF CS hV2
  obtain ⟨f0, f1⟩ := cells2 HF2.out
  obtain ⟨x0, x1, x2⟩ := cellsS HS.out
  go_wp2_with (with_reducible refine at_list5 ?_; first | (refine storeS _ (.tmp 5) (.tmp 10) w1.heap.size (.int .i64 (L : Int)) (.bool P) (.func (.func 108) #[] #[.pointer (some ⟨g, 0, none⟩), .pointer (some ⟨g + 1, 0, none⟩)]) #[.int .i64 0, .bool false, .nilFunc] (by exact heap_alloc_new w1 _) rfl (by simp [Value.oneCell']) rfl rfl rfl rfl ?_; rw [foldS, ← HV2.out]) | (refine loadS V2 (.tmp 5) w1.heap.size _ _ _ HS.out rfl rfl rfl ?_))
  refine (CL.out g V2).mono ?_
  rintro e w3 ⟨rfl, hb⟩
  have HB3 := Lib.hid (bel5 HB2.out hb HB2.out.size)
  have HM3 := Lib.hid (HM2.out.old hb (Nat.le_refl _))
  have HS3 := Lib.hid (old5 HS.out hb (Nat.le_refl _))
  clear f0 f1 x0 x1 x2 hb HS HB2 HF2 HM2 HV2 CL
  obtain ⟨x0, x1, x2⟩ := cellsS HS3.out
  obtain ⟨s, hs⟩ : ∃ s, s = w1.heap.size := ⟨_, rfl⟩
  rw [← hs] at x0 x1 x2 ⊢
  clear hs HS3
  cases LN with
  | false =>
    have HE := Lib.hid (show R = false by rw [← HFIT.out, Bool.and_false])
    clear x0 x1 x2
    go_wp2
    go_ret
    exact ⟨by rw [HE.out]; rfl, HB3.out⟩
  | true =>
    have HE := Lib.hid (show v.all (sgnF k) = R by rw [← HFIT.out, Bool.and_true])
    clear HFIT
    go_wp2
    go_loop [20] (fun i => ∃ j : Nat, j ≤ m ∧ i = .int .i64 j ∧ Hid (∀ q (h : q < v.length), q < j → sgnF k v[q] = true)) (fun i => m - (intOf i).toNat)
    case atStart => exact ⟨0, Nat.zero_le _, rfl, Lib.hid (fun q h hq => absurd hq (by omega))⟩
    case round =>
      obtain ⟨j, hj, rfl, hall⟩ := hrel
      by_cases hlt : j < m
      · have hjv : j < v.length := by rw [← HM.out]; exact hlt
        obtain ⟨b, o, rfl, hbb, hcell⟩ := RB.out w3 HB3.out j hjv
        have hji : (j : Int) < (m : Int) := by omega
        obtain ⟨z, hz⟩ : ∃ z, z = v[j] := ⟨_, rfl⟩
        rw [← hz] at hcell
        have HZ := Lib.hid hz
        have CC := Lib.hid (CM.out lo hi z g w3 HM3.out)
        rw [HSG.out z] at CC
        clear hz hbb
        cases hq : sgnF k z with
        | false =>
          have HQ := Lib.hid (show R = false by
            rw [← HE.out, List.all_eq_false]
            exact ⟨z, by rw [HZ.out]; exact List.getElem_mem _, by rw [hq]; simp⟩)
          rw [hq] at CC
          clear hq
          go_wp2_with fail
          refine CC.out.mono ?_
          rintro e w4 ⟨rfl, rfl⟩
          go_wp2
          go_ret
          exact ⟨by rw [HQ.out]; rfl, HB3.out⟩
        | true =>
          have HQ := Lib.hid (show ∀ q (h : q < v.length), q < j + 1 → sgnF k v[q] = true from fun q h hq2 => by
            by_cases e : q = j
            · subst e; rw [← HZ.out]; exact hq
            · exact hall.out q h (by omega))
          rw [hq] at CC
          clear hq hall
          go_wp2_with fail
          refine CC.out.mono ?_
          rintro e w4 ⟨rfl, rfl⟩
          go_wp2
          go_round
          case rel => exact ⟨j + 1, by omega, by go_num, HQ⟩
          case measure => simp [intOf]; omega
      · have hji : ¬ (j : Int) < (m : Int) := by omega
        have HQ := Lib.hid (show R = true by
          rw [← HE.out, List.all_eq_true]
          intro c hc
          obtain ⟨q, hq, rfl⟩ := List.getElem_of_mem hc
          exact hall.out q hq (by have := HM.out; omega))
        clear hall
        go_wp2
        go_ret
        exact ⟨by rw [HQ.out]; rfl, HB3.out⟩
end Go.Proofs.YtpfjecjfooefoaaDoor
/- dig.pack at figures, dig.Bcd: in a cut that holds no dig.Unhex. -/

namespace Go.Proofs.YtpfjecjfooefoaaDoor
open Go.RowKit

set_option maxRecDepth 100000 in
set_option maxHeartbeats 400000 in
theorem pack5_any (g : UInt8 → Option Nat) (hg : Worth g)
    (hyes : ∀ (c : UInt8) (v : Nat) (W : World), g c = some v → Calls Tryd.prog 69 #[.int .i32 (c.toNat : Int)] W fun e W' => e = .returned (.tuple #[.int .u8 v, .bool true]) ∧ W = W')
    (hno : ∀ (r : Int) (W : World), 0 ≤ r → r ≤ 2147483647 → (∀ c : UInt8, (c.toNat : Int) = r → g c = none) → Calls Tryd.prog 69 #[.int .i32 r] W fun e W' => e = .returned (.tuple #[.int .u8 0, .bool false]) ∧ W = W')
    (s : ByteArray) (W : World) (hs : s.size ≤ 1000000) :
    Calls Tryd.prog 68 #[.string s, .func (.func 69) #[] #[]] W fun e W' => PackR g s.data.toList W' e ∧ Below W.heap.size W W' := by
  have hmk := run_make_row' (P := Tryd.prog) 27 5 (.int .u8 0) 1 Tryd.underlying27 info5 rfl .i64 .i64 ((s.size + 1) / 2) (by omega) (by omega)
  rw [show (((s.size + 1) / 2 : Nat) : Int) = ((s.size : Int) + 1) / 2 from by omega] at hmk
  have HY := Lib.hid hyes
  have HN := Lib.hid hno
  clear hyes hno
  go_enter Tryd.func68, Tryd.ntmps68
  go_wp2
  clear hmk
  have hrow : ((W.alloc (.cells (madeCells #[.int .u8 0] ((s.size + 1) / 2)) 5)).iter s 0).rowIs W.heap.size 5 ((s.size + 1) / 2) (rowP (hvF g s.data.toList) (s.size % 2)) := by
    refine ((World.rowIs_made W (.int .u8 0) _ 5).alloc _).congr (fun i hi => ?_)
    unfold rowP cellP
    rw [if_neg (by omega)]
    split
    · unfold hvF; rw [if_pos (by rw [bytes_len]; omega)]; rfl
    · rfl
  have hit : ((W.alloc (.cells (madeCells #[.int .u8 0] ((s.size + 1) / 2)) 5)).iter s 0).heap[W.heap.size + 1]? = some (.stringIter s 0) := by
    have := World.iter_heap (W.alloc (.cells (madeCells #[.int .u8 0] ((s.size + 1) / 2)) 5)) s 0
    rwa [World.size_alloc] at this
  have hbel : Below W.heap.size W ((W.alloc (.cells (madeCells #[.int .u8 0] ((s.size + 1) / 2)) 5)).iter s 0) := ((Below.refl _ _).alloc (Nat.le_refl _) _).alloc (by rw [World.size_alloc]; omega) _
  generalize (W.alloc (.cells (madeCells #[.int .u8 0] ((s.size + 1) / 2)) 5)).iter s 0 = W0 at hrow hit hbel
  go_loopw [7] (fun t wr => ∃ k : Nat, k ≤ s.size ∧ t = .int .i64 ((s.size % 2 + k : Nat) : Int) ∧ wr.heap[W.heap.size + 1]? = some (.stringIter s k) ∧
      wr.rowIs W.heap.size 5 ((s.size + 1) / 2) (rowP (hvF g s.data.toList) (s.size % 2 + k)) ∧ Below W.heap.size W wr ∧ Hid (∀ j (h : j < s.size), j < k → (g s[j]).isSome = true)) (fun _ wr => s.size - wr.iterPos (W.heap.size + 1))
  case atStart => exact ⟨0, Nat.zero_le _, by simp, hit, hrow, hbel, Lib.hid (fun j h hj => absurd hj (by omega))⟩
  case round =>
    obtain ⟨k, hk, rfl, hit, hrow, hbel, hall⟩ := hrel
    by_cases hlt : k < s.size
    · cases hgk : g s[k] with
      | some v =>
        have hv := hg _ _ hgk
        have hnx : ∀ ty, (Instr.next (.pointer (some ⟨W.heap.size + 1, 0, none⟩)) true ty).run Tryd.prog wr = _ := fun ty => Lib.run_next_ascii_at wr (W.heap.size + 1) s k ty hit hlt hv.2
        have hi2 := Lib.iterAt_heap wr (W.heap.size + 1) s k (k + 1) hit
        have hr2 := hrow.of_block (Lib.iterAt_other wr (W.heap.size + 1) W.heap.size s (k + 1) (by omega))
        have hb2 := Lib.below_iterAt hbel (show W.heap.size ≤ W.heap.size + 1 by omega) s (k + 1)
        have hvk : hvF g s.data.toList (s.size % 2 + k) = v := by
          unfold hvF
          rw [bytes_len, if_neg (by omega), show s.size % 2 + k - s.size % 2 = k by omega, getD_at _ _ (by rw [bytes_len]; exact hlt), get_bytes s k hlt, hgk]
          rfl
        have hlt16 := hvF_lt g hg s.data.toList
        generalize hT : s.size % 2 + k = T at *
        have hTn : T / 2 < (s.size + 1) / 2 := by omega
        have hc := hr2.cell (i := T / 2) hTn
        have hf := hr2.frozen (T / 2)
        have hstep := fun p v' => rowP_step (hvF g s.data.toList) T p v'
        have hx16 := cellP_half _ hlt16 T
        have hor := or_half (cellP (hvF g s.data.toList) T (T / 2)) v hx16 hv.1
        unfold rowP at hc
        generalize hX : cellP (hvF g s.data.toList) T (T / 2) = X at *
        have hit0 := Lib.hid hit
        have HR := Lib.hid hr2
        have HI := Lib.hid hi2
        have HB := Lib.hid hb2
        have HT := Lib.hid hT
        have HX := Lib.hid hX
        have HG := Lib.hid hgk
        have HV := Lib.hid hvk
        have HS := Lib.hid hstep
        generalize wr.iterAt (W.heap.size + 1) s (k + 1) = wr2 at *
        clear hr2 hi2 hb2 hT hX hgk hvk hstep hlt16 hrow hit hbel
        go_wp2_with fail
        refine (HY.out _ v _ HG.out).mono ?_
        rintro e w' ⟨rfl, rfl⟩
        go_wp2
        have et : s.size % 2 + (k + 1) = T + 1 := by have := HT.out; omega
        go_roundw
        case rel =>
          refine ⟨k + 1, by omega, by rw [et]; go_num, (Below.heap_setCell _ _ _ _ (by simp)).trans HI.out, ?_, HB.out.setCell (Nat.le_refl _) _, Lib.hid (fun j h hj => ?_)⟩
          · rw [et]
            refine (HR.out.set (T / 2) _).congr (fun p hp => HS.out p _ ?_)
            rw [HV.out]
            omega
          · by_cases hjk : j = k
            · subst hjk; rw [HG.out]; rfl
            · exact hall.out j h (by omega)
        case measure =>
          have e1 := iterPos_of ((Below.heap_setCell wr2 ⟨W.heap.size, T / 2, none⟩ (Value.int IntKind.u8 (16 * (X : Int) + v)) _ (by simp)).trans HI.out)
          have e2 := iterPos_of hit0.out
          rw [e2, e1]
          omega
      | none =>
        have hno := rune_none g hg s k hlt hgk
        have hle := decode_le s k
        have hnx : ∀ ty, (Instr.next (.pointer (some ⟨W.heap.size + 1, 0, none⟩)) true ty).run Tryd.prog wr = _ := fun ty => Lib.run_next_any_at wr (W.heap.size + 1) s k ty hit hlt
        have hb2 := Lib.below_iterAt hbel (show W.heap.size ≤ W.heap.size + 1 by omega) s (k + (Utf8.decode s k).2)
        have hN := okL_no g s.data.toList k (by rw [bytes_len]; exact hlt) (by rw [get_bytes s k hlt]; exact hgk)
        have HC := Lib.hid (fun W => HN.out ((Utf8.decode s k).1 : Int) W (by omega) (by omega) hno)
        have HB := Lib.hid hb2
        have HO := Lib.hid hN
        generalize wr.iterAt (W.heap.size + 1) s (k + (Utf8.decode s k).2) = wr2 at *
        generalize (Utf8.decode s k).1 = r at *
        clear hno hb2 hN hgk hrow hit hbel
        go_wp2_with fail
        refine (HC.out _).mono ?_
        rintro e w' ⟨rfl, rfl⟩
        go_wp2
        go_ret2
        exact ⟨by unfold PackR; rw [if_neg (by rw [HO.out]; simp)]; rfl, HB.out⟩
    · have hkl : k = s.size := by omega
      have hok : okL g s.data.toList = true := by
        unfold okL
        rw [List.all_eq_true]
        intro c hc
        obtain ⟨j, hj, rfl⟩ := List.getElem_of_mem hc
        rw [bytes_len] at hj
        have := hall.out j hj (by omega)
        rwa [get_bytes s j hj]
      have hsl : Sl wr (.slice (some ⟨W.heap.size, 0, none⟩) ((s.size + 1) / 2) ((s.size + 1) / 2)) (packL g s.data.toList) := by
        refine Sl.row hrow (by rw [packL_length, bytes_len]) (by omega) (fun j hj => ?_)
        rw [packL_length, bytes_len] at hj
        rw [packL_get, pkAt_nat _ (hvF_lt g hg _)]
        unfold rowP cellP
        rw [if_pos (by omega)]
      have HS := Lib.hid hsl
      have HO := Lib.hid hok
      have HB := Lib.hid hbel
      have hnx : ∀ ty, (Instr.next (.pointer (some ⟨W.heap.size + 1, 0, none⟩)) true ty).run Tryd.prog wr = _ := fun ty => Lib.run_next_end_at wr (W.heap.size + 1) s k ty hit hlt
      clear hsl hok hbel hkl hit hrow hall HY HN
      go_wp2
      go_ret2
      exact ⟨by unfold PackR; rw [if_pos HO.out]; exact ⟨_, rfl, HS.out⟩, HB.out⟩

set_option maxRecDepth 100000 in
theorem bcd5_any (s : ByteArray) (W : World) (hs : s.size ≤ 1000000) :
    Calls Tryd.prog 36 #[.string s] W fun e W' => PackR gFig s.data.toList W' e ∧ Below W.heap.size W W' := by
  go_enter Tryd.func36, Tryd.ntmps36
  go_wp2_with fail
  refine (pack5_any gFig gFig_w ?_ ?_ s W hs).mono ?_
  · intro c v W h
    unfold gFig at h
    split at h <;> simp at h
    subst h
    refine (figure_yes (c.toNat : Int) W (by omega) (by omega)).mono ?_
    rintro e w' ⟨rfl, rfl⟩
    exact ⟨by rw [show (c.toNat : Int) - 48 = ((c.toNat - 48 : Nat) : Int) by omega], rfl⟩
  · intro r W h0 h1 h
    refine figure_no r W ?_
    by_cases a : 48 ≤ r
    · by_cases b : r ≤ 57
      · have := h (UInt8.ofNat r.toNat) (by rw [UInt8.toNat_ofNat']; omega)
        unfold gFig at this
        rw [UInt8.toNat_ofNat', if_pos (by omega)] at this
        cases this
      · omega
    · omega
  · rintro e w' ⟨h, hb⟩
    unfold PackR at h
    split at h
    · obtain ⟨v, rfl, hsl⟩ := h
      rename_i ho
      have HO := Lib.hid ho
      have HS := Lib.hid hsl
      have HB := Lib.hid hb
      clear ho hsl hb
      go_wp2
      go_ret2
      exact ⟨by unfold PackR; rw [if_pos HO.out]; exact ⟨_, rfl, HS.out⟩, HB.out⟩
    · subst h
      rename_i ho
      have HO := Lib.hid ho
      have HB := Lib.hid hb
      clear ho hb
      go_wp2
      go_ret2
      exact ⟨by unfold PackR; rw [if_neg HO.out]; rfl, HB.out⟩
end Go.Proofs.YtpfjecjfooefoaaDoor
/- field's count, itself. -/

namespace Go.Proofs.YtpfjecjfooefoaaDoor
open Go.RowKit

set_option maxRecDepth 100000 in
theorem bcdf_any (l : List UInt8) (hf : allFig l = true) (hs : l.length ≤ 100000) (W : World) :
    Calls Tryd.prog 36 #[.string ⟨l.toArray⟩] W fun e W' => Ans W' e (packL gFig l) (packL gFig l).length (.int .i64 0) ∧ Below W.heap.size W W' := by
  refine (bcd5_any ⟨l.toArray⟩ W (by show l.toArray.size ≤ 1000000; simp; omega)).mono fun e W' h => ⟨?_, h.2⟩
  have h1 := h.1
  unfold PackR at h1
  rw [okL_fig] at h1
  rw [if_pos (show allFig (⟨l.toArray⟩ : ByteArray).data.toList = true from hf)] at h1
  exact Ans.of _ h1 rfl

set_option maxRecDepth 100000 in
/-- a shape, just laid into a block -/
theorem box_shape (W : World) (L : Int) (P : Bool) (F : Value) : ∃ V, V = W.alloc (.cells #[.int .i64 L, .bool P, F] 115) ∧ Below W.heap.size W V ∧ V.heap[W.heap.size]? = some (.cells #[.int .i64 L, .bool P, F] 115 (0, 0)) :=
  ⟨_, rfl, (Below.refl W.heap.size W).alloc (Nat.le_refl _) _, heap_alloc_new W _⟩

set_option maxRecDepth 100000 in
theorem count5_any (k m g : Nat) (hm : 0 < cntF k → m < 10 ^ cntF k) (hm9 : m ≤ 100000) (W : World) :
    Calls Tryd.prog 77 #[shV k g, .int .i64 (m : Int)] W fun e W' => AnsB5 W' e (headF k m) (headF k m).length ∧ Below W.heap.size W W' := by
  unfold shV mayV
  generalize decide (k ≤ 2) = P at *
  by_cases hz : cntF k = 0
  · have he : headF k m = [] := by unfold headF; rw [if_neg (by omega)]
    rw [he, hz]
    clear he hz hm
    have HB := Lib.hid (fun (o : Obj) => (Below.refl W.heap.size W).alloc (Nat.le_refl _) o)
    go_enter Tryd.func77, Tryd.ntmps77
    go_wp2
    go_ret
    exact ⟨⟨none, 0, rfl, Nat.le_refl _, by omega, Rd.nil⟩, HB.out _⟩
  · have hL : 1 ≤ cntF k ∧ cntF k ≤ 18 := by rcases cnt_cases k with ⟨e, -⟩ | ⟨e, -⟩ | ⟨e, -⟩ <;> omega
    have he : headF k m = packL gFig (dgL 48 10 m (cntF k)) := by unfold headF; rw [if_pos (by omega)]
    have CD := Lib.hid (fun w => (show Calls Tryd.prog 35 #[.int .i64 (m : Int), .int .i64 (cntF k : Nat)] w fun e W' => e = .returned (.tuple #[.string ⟨(dgL 48 10 m (cntF k)).toArray⟩, .int .i64 0]) ∧ Below w.heap.size w W' from
      (digits_any m (cntF k) w hL.1 hL.2 (by omega)).mono fun e W' h => ⟨by rw [h.1]; unfold digitsV; rw [if_pos (hm (by omega))], h.2⟩))
    have CB := Lib.hid (fun w => bcdf_any (dgL 48 10 m (cntF k)) (dgL_fig m (cntF k)) (by rw [dgL_length]; omega) w)
    rw [← he] at CB
    have hz0 : ¬ ((cntF k : Nat) : Int) = 0 := by omega
    clear hm he hz hL
    generalize headF k m = H at *
    generalize dgL 48 10 m (cntF k) = D at *
    generalize cntF k = L at *
    generalize H.length = N at *
    obtain ⟨V, hV, hb, hs⟩ := box_shape W L P (.func (.func 108) #[] #[.pointer (some ⟨g, 0, none⟩), .pointer (some ⟨g + 1, 0, none⟩)])
    obtain ⟨x0, -, -⟩ := cellsS hs
    have HB := Lib.hid hb
    have HV := Lib.hid hV
    clear hb hV hs
    go_enter Tryd.func77, Tryd.ntmps77
    go_wp2_with fail
    rw [← HV.out]
    refine (CD.out _).mono ?_
    rintro e w1 ⟨rfl, hb⟩
    have HB1 := Lib.hid (bel5 HB.out hb HB.out.size)
    clear hb HB CD x0 HV
    go_wp2_with fail
    refine (CB.out _).mono ?_
    rintro e w2 ⟨⟨A1, c1, rfl, h1, h2, h3⟩, hb⟩
    have HB2 := Lib.hid (bel5 HB1.out hb HB1.out.size)
    have HR := Lib.hid h3
    clear hb HB1 CB h3
    go_wp2_with fail
    go_ret
    exact ⟨⟨A1, c1, rfl, h1, h2, HR.out⟩, HB2.out⟩

set_option maxRecDepth 100000 in
theorem itself5_any (k g : Nat) (A : Option Addr) (v : List UInt8) (c : Nat) (hf : k ≤ 2 → allFig v = true) (W : World) (hl : v.length ≤ 10000) (hc : v.length ≤ c) (hcm : c ≤ 9223372036854775807) (hr : Rd W W.heap.size A v) :
    Calls Tryd.prog 78 #[shV k g, .slice A v.length c] W fun e W' => AnsB5 W' e (bodyF k v) (bodyF k v).length ∧ Below W.heap.size W W' := by
  unfold shV mayV
  generalize cntF k = L at *
  by_cases hk : k ≤ 2
  · have he : bodyF k v = packL gFig v := by unfold bodyF; rw [if_pos hk]
    rw [decide_eq_true hk, he]
    have CB := Lib.hid (fun w => bcdf_any v (hf hk) (by omega) w)
    have HS := Lib.hid (fun w (h : Below W.heap.size W w) => run_str (P := Tryd.prog) (hr.below h (Nat.le_refl _)) c _ _ _ Tryd.underlying27 Tryd.underlying5 Tryd.underlying9)
    clear he hk hf hr
    obtain ⟨V, hV, hb, hs⟩ := box_shape W L true (.func (.func 108) #[] #[.pointer (some ⟨g, 0, none⟩), .pointer (some ⟨g + 1, 0, none⟩)])
    have hstr := HS.out V hb
    obtain ⟨-, x1, -⟩ := cellsS hs
    have HB := Lib.hid hb
    clear hb HS hs
    generalize packL gFig v = Q at *
    generalize v.toArray = VA at *
    generalize v.length = m at *
    generalize Q.length = N at *
    have HV := Lib.hid hV
    rw [hV] at hstr x1
    clear hV
    go_enter Tryd.func78, Tryd.ntmps78
    go_wp2_with fail
    rw [← HV.out]
    refine (CB.out _).mono ?_
    rintro e w2 ⟨⟨A1, c1, rfl, h1, h2, h3⟩, hb⟩
    have HB2 := Lib.hid (bel5 HB.out hb HB.out.size)
    have HR := Lib.hid h3
    clear hb HB CB h3 hstr x1
    go_wp2_with fail
    go_ret
    exact ⟨⟨A1, c1, rfl, h1, h2, HR.out⟩, HB2.out⟩
  · have he : bodyF k v = v := by unfold bodyF; rw [if_neg hk]
    rw [decide_eq_false hk, he]
    have HB := Lib.hid (fun (o : Obj) => (Below.refl W.heap.size W).alloc (Nat.le_refl _) o)
    have HR := Lib.hid (fun w (h : Below W.heap.size W w) => (hr.below h (Nat.le_refl _)).more h.size)
    clear he hk hf hr
    generalize v.length = m at *
    go_enter Tryd.func78, Tryd.ntmps78
    go_wp2
    go_ret
    exact ⟨⟨A, c, rfl, hc, hcm, HR.out _ (HB.out _)⟩, HB.out _⟩
end Go.Proofs.YtpfjecjfooefoaaDoor
