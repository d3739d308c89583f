
/- prov.Check. -/
import Derived.Test.YtcfncbbdlbdbnaaDoorPrI
import Derived.Test.YtcfncbbdlbdbnaaDoorMacF
namespace Go.Proofs.YtcfncbbdlbdbnaaDoor
open Go.RowKit

set_option maxRecDepth 100000 in
set_option maxHeartbeats 2000000 in
theorem pcheck_any (i f : Bool) (A : Option Addr) (l : List Pr) (c : Nat) (K B T : Option Addr) (k b t : List UInt8) (kc bc tc : Nat) (w : World) (h1000 : l.length ≤ 1000) (hkl : k.length ≤ 100000) (hbl : b.length ≤ 90000) (htl : t.length ≤ 100000) (hkc : k.length ≤ kc) (hkm : kc ≤ 9223372036854775807) (hbc : b.length ≤ bc) (hbm : bc ≤ 9223372036854775807)
    (hT : Tab w w.heap.size A l) (hk : Rd w w.heap.size K k) (hb : Rd w w.heap.size B b) (ht : Rd w w.heap.size T t) (hK : Ks w) :
    Calls Tryd.prog 13 #[.agg #[.bool i, .slice A l.length c, .bool f], .slice K k.length kc, .slice B b.length bc, .slice T t.length tc] w fun e W' =>
      e = .returned (.tuple #[.agg #[.bool i, .slice A l.length c, .bool (f || (decide (t = cutF k b) && !decide ((k, b) ∈ l)))], .bool (decide (t = cutF k b) && (decide ((k, b) ∈ l) || !i))]) ∧ Below w.heap.size w W' := by
  have CH := Lib.hid (fun W (h : Below w.heap.size w W) => had_any i f A l c K B k b kc bc W h1000 hkc hkm hbc hbm ((hT.below h (Nat.le_refl _)).more h.size) ((hk.below h (Nat.le_refl _)).more h.size) ((hb.below h (Nat.le_refl _)).more h.size))
  have CC := Lib.hid (fun W (h : Below w.heap.size w W) => cut4_any K B k b kc bc W hkl hbl hkc hbc ((hk.below h (Nat.le_refl _)).more h.size) ((hb.below h (Nat.le_refl _)).more h.size) (Ks.call hK h))
  have CS := Lib.hid (fun A1 c1 W (h : Below w.heap.size w W) (h1 : Rd W W.heap.size A1 (cutF k b)) => show Calls Tryd.prog 27 #[.slice T t.length tc, .slice A1 16 c1] W fun e w' => e = .returned (.bool (decide (t = cutF k b))) ∧ W = w' from by
    have h2 := macSame_any T A1 t (cutF k b) tc c1 _ _ W ((ht.below h (Nat.le_refl _)).more h.size) h1 (by omega) (by rw [cutF_length]; omega)
    rw [cutF_length] at h2
    exact h2)
  generalize l.length = n at *
  generalize k.length = kn at *
  generalize b.length = bn at *
  generalize t.length = tn at *
  generalize decide ((k, b) ∈ l) = had at *
  generalize decide (t = cutF k b) = right at *
  generalize cutF k b = TF at *
  clear hT hk hb ht hK hkl hbl htl hkc hkm hbc hbm h1000
  obtain ⟨q1, q2, q3, q4⟩ := alloc2 w (.cells (pcs i A n c f) 24) (.cells (pcs false none 0 0 false) 24)
  have Q1 := Lib.hid q1
  have Q2 := Lib.hid q2
  have Q4 := Lib.hid q4
  clear q1 q2 q4
  cases right
  · clear CH
    go_enter Tryd.func13, Tryd.ntmps13
    go_wp2_with fail
    refine (CC.out _ Q4.out).mono ?_
    rintro e w1 ⟨⟨A1, c1, rfl, h1, h2, h3⟩, hb1⟩
    have HB1 := Lib.hid (bel_call Q4.out hb1 (by omega))
    have P1 := old_below Q1.out hb1 (Nat.le_refl _)
    have R1 := old_below Q2.out hb1 (Nat.le_refl _)
    have HT1 := Lib.hid h3
    obtain ⟨e0, e1, e2⟩ := cells3 P1
    obtain ⟨z0, z1, z2⟩ := cells3 R1
    obtain ⟨y0, y1, y2⟩ := frozen3 R1
    have HR1 := Lib.hid R1
    clear h3 hb1 Q1 Q2 Q4 q3 CC P1 R1
    go_wp2_with fail
    refine (CS.out _ _ _ HB1.out HT1.out).mono ?_
    rintro e w2 ⟨rfl, rfl⟩
    go_wp2_with fail
    (try simp only [Exit.inBlock, Exit.then])
    refine bodyPost_ret (ret3t rfl _ (set3 w1 (w.heap.size + 1) (.bool i) (.slice A n c) (.bool f)) (w.heap.size + 1) (.bool i) (.slice A n c) (.bool f) _ rfl rfl (set3_same _ _ _ HR1.out)) rfl ?_
    exact ⟨by simp, Below.set3 HB1.out (Nat.le_succ w.heap.size) _ _ _⟩
  · cases had
    · cases i
      · cases f
        · go_enter Tryd.func13, Tryd.ntmps13
          go_wp2_with fail
          refine (CC.out _ Q4.out).mono ?_
          rintro e w1 ⟨⟨A1, c1, rfl, h1, h2, h3⟩, hb1⟩
          have HB1 := Lib.hid (bel_call Q4.out hb1 (by omega))
          have HP1 := Lib.hid (old_below Q1.out hb1 (Nat.le_refl _))
          have HR1 := Lib.hid (old_below Q2.out hb1 (Nat.le_refl _))
          have HT1 := Lib.hid h3
          obtain ⟨e0, e1, e2⟩ := cells3 HP1.out
          clear h3 hb1 Q1 Q2 Q4 q3 CC
          go_wp2_with fail
          refine (CS.out _ _ _ HB1.out HT1.out).mono ?_
          rintro e w2 ⟨rfl, rfl⟩
          go_wp2_with fail
          refine (CH.out _ HB1.out).mono ?_
          rintro e w3 ⟨rfl, hb3⟩
          have HB3 := Lib.hid (bel_call HB1.out hb3 HB1.out.size)
          have HP3 := Lib.hid (old_below HP1.out hb3 (Nat.le_refl _))
          have HR3 := Lib.hid (old_below HR1.out hb3 (Nat.le_refl _))
          obtain ⟨e0', e1', e2'⟩ := cells3 HP3.out
          obtain ⟨y0, y1, y2⟩ := frozen3 HP3.out
          clear hb3 e0 e1 e2 CS CH
          go_wp2_with fail
          have P4 := heap_setCell_same w3 w.heap.size 2 _ 24 (.bool true) HP3.out
          simp only [List.setIfInBounds_toArray, List.set_cons_zero, List.set_cons_succ] at P4
          have R4 := (heap_setCell_other w3 ⟨w.heap.size, 2, none⟩ (w.heap.size + 1) (.bool true) (by simp)).trans HR3.out
          have B4 := HB3.out.setCell (p := ⟨w.heap.size, 2, none⟩) (Nat.le_refl _) (.bool true)
          change Code.wp _ _ _ _ (w3.setCell ⟨w.heap.size, 2, none⟩ (.bool true))
          clear e0' e1' e2' y0 y1 y2
          generalize w3.setCell ⟨w.heap.size, 2, none⟩ (.bool true) = w4 at *
          have HP4 := Lib.hid P4
          have HR4 := Lib.hid R4
          have HB4 := Lib.hid B4
          clear P4 R4 B4 HB1 HP1 HR1 HT1 HB3 HP3 HR3
          obtain ⟨e0, e1, e2⟩ := cells3 (w := w4.drew) HP4.out
          obtain ⟨z0, z1, z2⟩ := cells3 (w := w4.drew) HR4.out
          obtain ⟨y0, y1, y2⟩ := frozen3 (w := w4.drew) HR4.out
          obtain ⟨x0, x1, x2⟩ := cells3 (w := w4) HP4.out
          obtain ⟨z0', z1', z2'⟩ := cells3 (w := w4) HR4.out
          obtain ⟨y0', y1', y2'⟩ := frozen3 (w := w4) HR4.out
          go_region
          all_goals
            change Exit.then _ _ _ _ (set3 w4 (w.heap.size + 1) (.bool false) (.slice A n c) (.bool true)).drew
            go_wp2_with fail
            (try simp only [Exit.inBlock, Exit.then])
            refine bodyPost_ret (ret3t rfl _ (set3 w4 (w.heap.size + 1) (.bool false) (.slice A n c) (.bool true)).drew (w.heap.size + 1) (.bool false) (.slice A n c) (.bool true) _ rfl rfl (show (set3 w4 (w.heap.size + 1) (.bool false) (.slice A n c) (.bool true)).heap[w.heap.size + 1]? = _ from set3_same _ _ _ HR4.out)) rfl ?_
            exact ⟨rfl, (Below.set3 HB4.out (Nat.le_succ w.heap.size) _ _ _).drew⟩
        · go_enter Tryd.func13, Tryd.ntmps13
          go_wp2_with fail
          refine (CC.out _ Q4.out).mono ?_
          rintro e w1 ⟨⟨A1, c1, rfl, h1, h2, h3⟩, hb1⟩
          have HB1 := Lib.hid (bel_call Q4.out hb1 (by omega))
          have HP1 := Lib.hid (old_below Q1.out hb1 (Nat.le_refl _))
          have HR1 := Lib.hid (old_below Q2.out hb1 (Nat.le_refl _))
          have HT1 := Lib.hid h3
          obtain ⟨e0, e1, e2⟩ := cells3 HP1.out
          clear h3 hb1 Q1 Q2 Q4 q3 CC
          go_wp2_with fail
          refine (CS.out _ _ _ HB1.out HT1.out).mono ?_
          rintro e w2 ⟨rfl, rfl⟩
          go_wp2_with fail
          refine (CH.out _ HB1.out).mono ?_
          rintro e w3 ⟨rfl, hb3⟩
          have HB3 := Lib.hid (bel_call HB1.out hb3 HB1.out.size)
          have HP3 := Lib.hid (old_below HP1.out hb3 (Nat.le_refl _))
          have HR3 := Lib.hid (old_below HR1.out hb3 (Nat.le_refl _))
          obtain ⟨e0', e1', e2'⟩ := cells3 HP3.out
          obtain ⟨y0, y1, y2⟩ := frozen3 HP3.out
          clear hb3 e0 e1 e2 CS CH
          go_wp2_with fail
          have P4 := heap_setCell_same w3 w.heap.size 2 _ 24 (.bool true) HP3.out
          simp only [List.setIfInBounds_toArray, List.set_cons_zero, List.set_cons_succ] at P4
          have R4 := (heap_setCell_other w3 ⟨w.heap.size, 2, none⟩ (w.heap.size + 1) (.bool true) (by simp)).trans HR3.out
          have B4 := HB3.out.setCell (p := ⟨w.heap.size, 2, none⟩) (Nat.le_refl _) (.bool true)
          change Code.wp _ _ _ _ (w3.setCell ⟨w.heap.size, 2, none⟩ (.bool true))
          clear e0' e1' e2' y0 y1 y2
          generalize w3.setCell ⟨w.heap.size, 2, none⟩ (.bool true) = w4 at *
          have HP4 := Lib.hid P4
          have HR4 := Lib.hid R4
          have HB4 := Lib.hid B4
          clear P4 R4 B4 HB1 HP1 HR1 HT1 HB3 HP3 HR3
          obtain ⟨e0, e1, e2⟩ := cells3 (w := w4.drew) HP4.out
          obtain ⟨z0, z1, z2⟩ := cells3 (w := w4.drew) HR4.out
          obtain ⟨y0, y1, y2⟩ := frozen3 (w := w4.drew) HR4.out
          obtain ⟨x0, x1, x2⟩ := cells3 (w := w4) HP4.out
          obtain ⟨z0', z1', z2'⟩ := cells3 (w := w4) HR4.out
          obtain ⟨y0', y1', y2'⟩ := frozen3 (w := w4) HR4.out
          go_region
          all_goals
            change Exit.then _ _ _ _ (set3 w4 (w.heap.size + 1) (.bool false) (.slice A n c) (.bool true)).drew
            go_wp2_with fail
            (try simp only [Exit.inBlock, Exit.then])
            refine bodyPost_ret (ret3t rfl _ (set3 w4 (w.heap.size + 1) (.bool false) (.slice A n c) (.bool true)).drew (w.heap.size + 1) (.bool false) (.slice A n c) (.bool true) _ rfl rfl (show (set3 w4 (w.heap.size + 1) (.bool false) (.slice A n c) (.bool true)).heap[w.heap.size + 1]? = _ from set3_same _ _ _ HR4.out)) rfl ?_
            exact ⟨rfl, (Below.set3 HB4.out (Nat.le_succ w.heap.size) _ _ _).drew⟩
      · cases f
        · go_enter Tryd.func13, Tryd.ntmps13
          go_wp2_with fail
          refine (CC.out _ Q4.out).mono ?_
          rintro e w1 ⟨⟨A1, c1, rfl, h1, h2, h3⟩, hb1⟩
          have HB1 := Lib.hid (bel_call Q4.out hb1 (by omega))
          have HP1 := Lib.hid (old_below Q1.out hb1 (Nat.le_refl _))
          have HR1 := Lib.hid (old_below Q2.out hb1 (Nat.le_refl _))
          have HT1 := Lib.hid h3
          obtain ⟨e0, e1, e2⟩ := cells3 HP1.out
          clear h3 hb1 Q1 Q2 Q4 q3 CC
          go_wp2_with fail
          refine (CS.out _ _ _ HB1.out HT1.out).mono ?_
          rintro e w2 ⟨rfl, rfl⟩
          go_wp2_with fail
          refine (CH.out _ HB1.out).mono ?_
          rintro e w3 ⟨rfl, hb3⟩
          have HB3 := Lib.hid (bel_call HB1.out hb3 HB1.out.size)
          have HP3 := Lib.hid (old_below HP1.out hb3 (Nat.le_refl _))
          have HR3 := Lib.hid (old_below HR1.out hb3 (Nat.le_refl _))
          obtain ⟨e0', e1', e2'⟩ := cells3 HP3.out
          obtain ⟨y0, y1, y2⟩ := frozen3 HP3.out
          clear hb3 e0 e1 e2 CS CH
          go_wp2_with fail
          have P4 := heap_setCell_same w3 w.heap.size 2 _ 24 (.bool true) HP3.out
          simp only [List.setIfInBounds_toArray, List.set_cons_zero, List.set_cons_succ] at P4
          have R4 := (heap_setCell_other w3 ⟨w.heap.size, 2, none⟩ (w.heap.size + 1) (.bool true) (by simp)).trans HR3.out
          have B4 := HB3.out.setCell (p := ⟨w.heap.size, 2, none⟩) (Nat.le_refl _) (.bool true)
          change Code.wp _ _ _ _ (w3.setCell ⟨w.heap.size, 2, none⟩ (.bool true))
          clear e0' e1' e2' y0 y1 y2
          generalize w3.setCell ⟨w.heap.size, 2, none⟩ (.bool true) = w4 at *
          have HP4 := Lib.hid P4
          have HR4 := Lib.hid R4
          have HB4 := Lib.hid B4
          clear P4 R4 B4 HB1 HP1 HR1 HT1 HB3 HP3 HR3
          obtain ⟨e0, e1, e2⟩ := cells3 (w := w4.drew) HP4.out
          obtain ⟨z0, z1, z2⟩ := cells3 (w := w4.drew) HR4.out
          obtain ⟨y0, y1, y2⟩ := frozen3 (w := w4.drew) HR4.out
          obtain ⟨x0, x1, x2⟩ := cells3 (w := w4) HP4.out
          obtain ⟨z0', z1', z2'⟩ := cells3 (w := w4) HR4.out
          obtain ⟨y0', y1', y2'⟩ := frozen3 (w := w4) HR4.out
          go_region
          all_goals
            change Exit.then _ _ _ _ (set3 w4 (w.heap.size + 1) (.bool true) (.slice A n c) (.bool true)).drew
            go_wp2_with fail
            (try simp only [Exit.inBlock, Exit.then])
            refine bodyPost_ret (ret3t rfl _ (set3 w4 (w.heap.size + 1) (.bool true) (.slice A n c) (.bool true)).drew (w.heap.size + 1) (.bool true) (.slice A n c) (.bool true) _ rfl rfl (show (set3 w4 (w.heap.size + 1) (.bool true) (.slice A n c) (.bool true)).heap[w.heap.size + 1]? = _ from set3_same _ _ _ HR4.out)) rfl ?_
            exact ⟨rfl, (Below.set3 HB4.out (Nat.le_succ w.heap.size) _ _ _).drew⟩
        · go_enter Tryd.func13, Tryd.ntmps13
          go_wp2_with fail
          refine (CC.out _ Q4.out).mono ?_
          rintro e w1 ⟨⟨A1, c1, rfl, h1, h2, h3⟩, hb1⟩
          have HB1 := Lib.hid (bel_call Q4.out hb1 (by omega))
          have HP1 := Lib.hid (old_below Q1.out hb1 (Nat.le_refl _))
          have HR1 := Lib.hid (old_below Q2.out hb1 (Nat.le_refl _))
          have HT1 := Lib.hid h3
          obtain ⟨e0, e1, e2⟩ := cells3 HP1.out
          clear h3 hb1 Q1 Q2 Q4 q3 CC
          go_wp2_with fail
          refine (CS.out _ _ _ HB1.out HT1.out).mono ?_
          rintro e w2 ⟨rfl, rfl⟩
          go_wp2_with fail
          refine (CH.out _ HB1.out).mono ?_
          rintro e w3 ⟨rfl, hb3⟩
          have HB3 := Lib.hid (bel_call HB1.out hb3 HB1.out.size)
          have HP3 := Lib.hid (old_below HP1.out hb3 (Nat.le_refl _))
          have HR3 := Lib.hid (old_below HR1.out hb3 (Nat.le_refl _))
          obtain ⟨e0', e1', e2'⟩ := cells3 HP3.out
          obtain ⟨y0, y1, y2⟩ := frozen3 HP3.out
          clear hb3 e0 e1 e2 CS CH
          go_wp2_with fail
          have P4 := heap_setCell_same w3 w.heap.size 2 _ 24 (.bool true) HP3.out
          simp only [List.setIfInBounds_toArray, List.set_cons_zero, List.set_cons_succ] at P4
          have R4 := (heap_setCell_other w3 ⟨w.heap.size, 2, none⟩ (w.heap.size + 1) (.bool true) (by simp)).trans HR3.out
          have B4 := HB3.out.setCell (p := ⟨w.heap.size, 2, none⟩) (Nat.le_refl _) (.bool true)
          change Code.wp _ _ _ _ (w3.setCell ⟨w.heap.size, 2, none⟩ (.bool true))
          clear e0' e1' e2' y0 y1 y2
          generalize w3.setCell ⟨w.heap.size, 2, none⟩ (.bool true) = w4 at *
          have HP4 := Lib.hid P4
          have HR4 := Lib.hid R4
          have HB4 := Lib.hid B4
          clear P4 R4 B4 HB1 HP1 HR1 HT1 HB3 HP3 HR3
          obtain ⟨e0, e1, e2⟩ := cells3 (w := w4.drew) HP4.out
          obtain ⟨z0, z1, z2⟩ := cells3 (w := w4.drew) HR4.out
          obtain ⟨y0, y1, y2⟩ := frozen3 (w := w4.drew) HR4.out
          obtain ⟨x0, x1, x2⟩ := cells3 (w := w4) HP4.out
          obtain ⟨z0', z1', z2'⟩ := cells3 (w := w4) HR4.out
          obtain ⟨y0', y1', y2'⟩ := frozen3 (w := w4) HR4.out
          go_region
          all_goals
            change Exit.then _ _ _ _ (set3 w4 (w.heap.size + 1) (.bool true) (.slice A n c) (.bool true)).drew
            go_wp2_with fail
            (try simp only [Exit.inBlock, Exit.then])
            refine bodyPost_ret (ret3t rfl _ (set3 w4 (w.heap.size + 1) (.bool true) (.slice A n c) (.bool true)).drew (w.heap.size + 1) (.bool true) (.slice A n c) (.bool true) _ rfl rfl (show (set3 w4 (w.heap.size + 1) (.bool true) (.slice A n c) (.bool true)).heap[w.heap.size + 1]? = _ from set3_same _ _ _ HR4.out)) rfl ?_
            exact ⟨rfl, (Below.set3 HB4.out (Nat.le_succ w.heap.size) _ _ _).drew⟩
    · cases i
      · cases f
        · go_enter Tryd.func13, Tryd.ntmps13
          go_wp2_with fail
          refine (CC.out _ Q4.out).mono ?_
          rintro e w1 ⟨⟨A1, c1, rfl, h1, h2, h3⟩, hb1⟩
          have HB1 := Lib.hid (bel_call Q4.out hb1 (by omega))
          have HP1 := Lib.hid (old_below Q1.out hb1 (Nat.le_refl _))
          have HR1 := Lib.hid (old_below Q2.out hb1 (Nat.le_refl _))
          have HT1 := Lib.hid h3
          obtain ⟨e0, e1, e2⟩ := cells3 HP1.out
          clear h3 hb1 Q1 Q2 Q4 q3 CC
          go_wp2_with fail
          refine (CS.out _ _ _ HB1.out HT1.out).mono ?_
          rintro e w2 ⟨rfl, rfl⟩
          go_wp2_with fail
          refine (CH.out _ HB1.out).mono ?_
          rintro e w3 ⟨rfl, hb3⟩
          have HB3 := Lib.hid (bel_call HB1.out hb3 HB1.out.size)
          have HP3 := Lib.hid (old_below HP1.out hb3 (Nat.le_refl _))
          have HR3 := Lib.hid (old_below HR1.out hb3 (Nat.le_refl _))
          obtain ⟨e0', e1', e2'⟩ := cells3 HP3.out
          obtain ⟨y0, y1, y2⟩ := frozen3 HP3.out
          clear hb3 e0 e1 e2 CS CH
          go_wp2_with fail
          have P4 := heap_setCell_same w3 w.heap.size 2 _ 24 (.bool false) HP3.out
          simp only [List.setIfInBounds_toArray, List.set_cons_zero, List.set_cons_succ] at P4
          have R4 := (heap_setCell_other w3 ⟨w.heap.size, 2, none⟩ (w.heap.size + 1) (.bool false) (by simp)).trans HR3.out
          have B4 := HB3.out.setCell (p := ⟨w.heap.size, 2, none⟩) (Nat.le_refl _) (.bool false)
          change Code.wp _ _ _ _ (w3.setCell ⟨w.heap.size, 2, none⟩ (.bool false))
          clear e0' e1' e2' y0 y1 y2
          generalize w3.setCell ⟨w.heap.size, 2, none⟩ (.bool false) = w4 at *
          have HP4 := Lib.hid P4
          have HR4 := Lib.hid R4
          have HB4 := Lib.hid B4
          clear P4 R4 B4 HB1 HP1 HR1 HT1 HB3 HP3 HR3
          obtain ⟨e0, e1, e2⟩ := cells3 (w := w4.drew) HP4.out
          obtain ⟨z0, z1, z2⟩ := cells3 (w := w4.drew) HR4.out
          obtain ⟨y0, y1, y2⟩ := frozen3 (w := w4.drew) HR4.out
          obtain ⟨x0, x1, x2⟩ := cells3 (w := w4) HP4.out
          obtain ⟨z0', z1', z2'⟩ := cells3 (w := w4) HR4.out
          obtain ⟨y0', y1', y2'⟩ := frozen3 (w := w4) HR4.out
          go_region
          all_goals
            change Exit.then _ _ _ _ (set3 w4 (w.heap.size + 1) (.bool false) (.slice A n c) (.bool false)).drew
            go_wp2_with fail
            (try simp only [Exit.inBlock, Exit.then])
            refine bodyPost_ret (ret3t rfl _ (set3 w4 (w.heap.size + 1) (.bool false) (.slice A n c) (.bool false)).drew (w.heap.size + 1) (.bool false) (.slice A n c) (.bool false) _ rfl rfl (show (set3 w4 (w.heap.size + 1) (.bool false) (.slice A n c) (.bool false)).heap[w.heap.size + 1]? = _ from set3_same _ _ _ HR4.out)) rfl ?_
            exact ⟨rfl, (Below.set3 HB4.out (Nat.le_succ w.heap.size) _ _ _).drew⟩
        · go_enter Tryd.func13, Tryd.ntmps13
          go_wp2_with fail
          refine (CC.out _ Q4.out).mono ?_
          rintro e w1 ⟨⟨A1, c1, rfl, h1, h2, h3⟩, hb1⟩
          have HB1 := Lib.hid (bel_call Q4.out hb1 (by omega))
          have HP1 := Lib.hid (old_below Q1.out hb1 (Nat.le_refl _))
          have HR1 := Lib.hid (old_below Q2.out hb1 (Nat.le_refl _))
          have HT1 := Lib.hid h3
          obtain ⟨e0, e1, e2⟩ := cells3 HP1.out
          clear h3 hb1 Q1 Q2 Q4 q3 CC
          go_wp2_with fail
          refine (CS.out _ _ _ HB1.out HT1.out).mono ?_
          rintro e w2 ⟨rfl, rfl⟩
          go_wp2_with fail
          refine (CH.out _ HB1.out).mono ?_
          rintro e w3 ⟨rfl, hb3⟩
          have HB3 := Lib.hid (bel_call HB1.out hb3 HB1.out.size)
          have HP3 := Lib.hid (old_below HP1.out hb3 (Nat.le_refl _))
          have HR3 := Lib.hid (old_below HR1.out hb3 (Nat.le_refl _))
          obtain ⟨e0', e1', e2'⟩ := cells3 HP3.out
          obtain ⟨y0, y1, y2⟩ := frozen3 HP3.out
          clear hb3 e0 e1 e2 CS CH
          go_wp2_with fail
          have P4 := heap_setCell_same w3 w.heap.size 2 _ 24 (.bool true) HP3.out
          simp only [List.setIfInBounds_toArray, List.set_cons_zero, List.set_cons_succ] at P4
          have R4 := (heap_setCell_other w3 ⟨w.heap.size, 2, none⟩ (w.heap.size + 1) (.bool true) (by simp)).trans HR3.out
          have B4 := HB3.out.setCell (p := ⟨w.heap.size, 2, none⟩) (Nat.le_refl _) (.bool true)
          change Code.wp _ _ _ _ (w3.setCell ⟨w.heap.size, 2, none⟩ (.bool true))
          clear e0' e1' e2' y0 y1 y2
          generalize w3.setCell ⟨w.heap.size, 2, none⟩ (.bool true) = w4 at *
          have HP4 := Lib.hid P4
          have HR4 := Lib.hid R4
          have HB4 := Lib.hid B4
          clear P4 R4 B4 HB1 HP1 HR1 HT1 HB3 HP3 HR3
          obtain ⟨e0, e1, e2⟩ := cells3 (w := w4.drew) HP4.out
          obtain ⟨z0, z1, z2⟩ := cells3 (w := w4.drew) HR4.out
          obtain ⟨y0, y1, y2⟩ := frozen3 (w := w4.drew) HR4.out
          obtain ⟨x0, x1, x2⟩ := cells3 (w := w4) HP4.out
          obtain ⟨z0', z1', z2'⟩ := cells3 (w := w4) HR4.out
          obtain ⟨y0', y1', y2'⟩ := frozen3 (w := w4) HR4.out
          go_region
          all_goals
            change Exit.then _ _ _ _ (set3 w4 (w.heap.size + 1) (.bool false) (.slice A n c) (.bool true)).drew
            go_wp2_with fail
            (try simp only [Exit.inBlock, Exit.then])
            refine bodyPost_ret (ret3t rfl _ (set3 w4 (w.heap.size + 1) (.bool false) (.slice A n c) (.bool true)).drew (w.heap.size + 1) (.bool false) (.slice A n c) (.bool true) _ rfl rfl (show (set3 w4 (w.heap.size + 1) (.bool false) (.slice A n c) (.bool true)).heap[w.heap.size + 1]? = _ from set3_same _ _ _ HR4.out)) rfl ?_
            exact ⟨rfl, (Below.set3 HB4.out (Nat.le_succ w.heap.size) _ _ _).drew⟩
      · cases f
        · go_enter Tryd.func13, Tryd.ntmps13
          go_wp2_with fail
          refine (CC.out _ Q4.out).mono ?_
          rintro e w1 ⟨⟨A1, c1, rfl, h1, h2, h3⟩, hb1⟩
          have HB1 := Lib.hid (bel_call Q4.out hb1 (by omega))
          have HP1 := Lib.hid (old_below Q1.out hb1 (Nat.le_refl _))
          have HR1 := Lib.hid (old_below Q2.out hb1 (Nat.le_refl _))
          have HT1 := Lib.hid h3
          obtain ⟨e0, e1, e2⟩ := cells3 HP1.out
          clear h3 hb1 Q1 Q2 Q4 q3 CC
          go_wp2_with fail
          refine (CS.out _ _ _ HB1.out HT1.out).mono ?_
          rintro e w2 ⟨rfl, rfl⟩
          go_wp2_with fail
          refine (CH.out _ HB1.out).mono ?_
          rintro e w3 ⟨rfl, hb3⟩
          have HB3 := Lib.hid (bel_call HB1.out hb3 HB1.out.size)
          have HP3 := Lib.hid (old_below HP1.out hb3 (Nat.le_refl _))
          have HR3 := Lib.hid (old_below HR1.out hb3 (Nat.le_refl _))
          obtain ⟨e0', e1', e2'⟩ := cells3 HP3.out
          obtain ⟨y0, y1, y2⟩ := frozen3 HP3.out
          clear hb3 e0 e1 e2 CS CH
          go_wp2_with fail
          have P4 := heap_setCell_same w3 w.heap.size 2 _ 24 (.bool false) HP3.out
          simp only [List.setIfInBounds_toArray, List.set_cons_zero, List.set_cons_succ] at P4
          have R4 := (heap_setCell_other w3 ⟨w.heap.size, 2, none⟩ (w.heap.size + 1) (.bool false) (by simp)).trans HR3.out
          have B4 := HB3.out.setCell (p := ⟨w.heap.size, 2, none⟩) (Nat.le_refl _) (.bool false)
          change Code.wp _ _ _ _ (w3.setCell ⟨w.heap.size, 2, none⟩ (.bool false))
          clear e0' e1' e2' y0 y1 y2
          generalize w3.setCell ⟨w.heap.size, 2, none⟩ (.bool false) = w4 at *
          have HP4 := Lib.hid P4
          have HR4 := Lib.hid R4
          have HB4 := Lib.hid B4
          clear P4 R4 B4 HB1 HP1 HR1 HT1 HB3 HP3 HR3
          obtain ⟨e0, e1, e2⟩ := cells3 (w := w4.drew) HP4.out
          obtain ⟨z0, z1, z2⟩ := cells3 (w := w4.drew) HR4.out
          obtain ⟨y0, y1, y2⟩ := frozen3 (w := w4.drew) HR4.out
          obtain ⟨x0, x1, x2⟩ := cells3 (w := w4) HP4.out
          obtain ⟨z0', z1', z2'⟩ := cells3 (w := w4) HR4.out
          obtain ⟨y0', y1', y2'⟩ := frozen3 (w := w4) HR4.out
          go_region
          all_goals
            change Exit.then _ _ _ _ (set3 w4 (w.heap.size + 1) (.bool true) (.slice A n c) (.bool false)).drew
            go_wp2_with fail
            (try simp only [Exit.inBlock, Exit.then])
            refine bodyPost_ret (ret3t rfl _ (set3 w4 (w.heap.size + 1) (.bool true) (.slice A n c) (.bool false)).drew (w.heap.size + 1) (.bool true) (.slice A n c) (.bool false) _ rfl rfl (show (set3 w4 (w.heap.size + 1) (.bool true) (.slice A n c) (.bool false)).heap[w.heap.size + 1]? = _ from set3_same _ _ _ HR4.out)) rfl ?_
            exact ⟨rfl, (Below.set3 HB4.out (Nat.le_succ w.heap.size) _ _ _).drew⟩
        · go_enter Tryd.func13, Tryd.ntmps13
          go_wp2_with fail
          refine (CC.out _ Q4.out).mono ?_
          rintro e w1 ⟨⟨A1, c1, rfl, h1, h2, h3⟩, hb1⟩
          have HB1 := Lib.hid (bel_call Q4.out hb1 (by omega))
          have HP1 := Lib.hid (old_below Q1.out hb1 (Nat.le_refl _))
          have HR1 := Lib.hid (old_below Q2.out hb1 (Nat.le_refl _))
          have HT1 := Lib.hid h3
          obtain ⟨e0, e1, e2⟩ := cells3 HP1.out
          clear h3 hb1 Q1 Q2 Q4 q3 CC
          go_wp2_with fail
          refine (CS.out _ _ _ HB1.out HT1.out).mono ?_
          rintro e w2 ⟨rfl, rfl⟩
          go_wp2_with fail
          refine (CH.out _ HB1.out).mono ?_
          rintro e w3 ⟨rfl, hb3⟩
          have HB3 := Lib.hid (bel_call HB1.out hb3 HB1.out.size)
          have HP3 := Lib.hid (old_below HP1.out hb3 (Nat.le_refl _))
          have HR3 := Lib.hid (old_below HR1.out hb3 (Nat.le_refl _))
          obtain ⟨e0', e1', e2'⟩ := cells3 HP3.out
          obtain ⟨y0, y1, y2⟩ := frozen3 HP3.out
          clear hb3 e0 e1 e2 CS CH
          go_wp2_with fail
          have P4 := heap_setCell_same w3 w.heap.size 2 _ 24 (.bool true) HP3.out
          simp only [List.setIfInBounds_toArray, List.set_cons_zero, List.set_cons_succ] at P4
          have R4 := (heap_setCell_other w3 ⟨w.heap.size, 2, none⟩ (w.heap.size + 1) (.bool true) (by simp)).trans HR3.out
          have B4 := HB3.out.setCell (p := ⟨w.heap.size, 2, none⟩) (Nat.le_refl _) (.bool true)
          change Code.wp _ _ _ _ (w3.setCell ⟨w.heap.size, 2, none⟩ (.bool true))
          clear e0' e1' e2' y0 y1 y2
          generalize w3.setCell ⟨w.heap.size, 2, none⟩ (.bool true) = w4 at *
          have HP4 := Lib.hid P4
          have HR4 := Lib.hid R4
          have HB4 := Lib.hid B4
          clear P4 R4 B4 HB1 HP1 HR1 HT1 HB3 HP3 HR3
          obtain ⟨e0, e1, e2⟩ := cells3 (w := w4.drew) HP4.out
          obtain ⟨z0, z1, z2⟩ := cells3 (w := w4.drew) HR4.out
          obtain ⟨y0, y1, y2⟩ := frozen3 (w := w4.drew) HR4.out
          obtain ⟨x0, x1, x2⟩ := cells3 (w := w4) HP4.out
          obtain ⟨z0', z1', z2'⟩ := cells3 (w := w4) HR4.out
          obtain ⟨y0', y1', y2'⟩ := frozen3 (w := w4) HR4.out
          go_region
          all_goals
            change Exit.then _ _ _ _ (set3 w4 (w.heap.size + 1) (.bool true) (.slice A n c) (.bool true)).drew
            go_wp2_with fail
            (try simp only [Exit.inBlock, Exit.then])
            refine bodyPost_ret (ret3t rfl _ (set3 w4 (w.heap.size + 1) (.bool true) (.slice A n c) (.bool true)).drew (w.heap.size + 1) (.bool true) (.slice A n c) (.bool true) _ rfl rfl (show (set3 w4 (w.heap.size + 1) (.bool true) (.slice A n c) (.bool true)).heap[w.heap.size + 1]? = _ from set3_same _ _ _ HR4.out)) rfl ?_
            exact ⟨rfl, (Below.set3 HB4.out (Nat.le_succ w.heap.size) _ _ _).drew⟩
end Go.Proofs.YtcfncbbdlbdbnaaDoor
