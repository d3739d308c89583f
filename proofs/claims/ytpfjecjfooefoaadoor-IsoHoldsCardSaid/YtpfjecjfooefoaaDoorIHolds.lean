
/- IsoHolds' walk. -/
import Derived.Test.YtpfjecjfooefoaaDoorJ40
import Derived.Test.YtpfjecjfooefoaaDoorIsX
namespace Go.Proofs.YtpfjecjfooefoaaDoor
open Go.RowKit

set_option maxRecDepth 100000 in
set_option maxHeartbeats 4000000 in
theorem isoHolds_walk (t : Int) (A : Option Addr) (l : List Fl) (c : Nat) (no : Int) (B : Option Addr) (x : List UInt8) (cb : Nat) (C : Option Addr) (y : List UInt8) (cc : Nat) (o : Int) (W : World) (ht : -9223372036854775808 ≤ t ∧ t ≤ 9223372036854775807) (hc : l.length ≤ c) (hcm : c ≤ 9223372036854775807) (hz : I64f l) (hr : RdF W W.heap.size A l) (hno : -9223372036854775808 ≤ no ∧ no ≤ 9223372036854775807) (hx : x.length ≤ cb) (hxm : cb ≤ 9223372036854775807) (hs : Rd W W.heap.size B x) (hy : y.length ≤ cc) (hym : cc ≤ 9223372036854775807) (hw : Rd W W.heap.size C y) (ho : -9223372036854775808 ≤ o ∧ o ≤ 9223372036854775807) (hT : Tb W) :
    Calls Tryd.prog 7 #[.agg #[.int .i64 t, .slice A l.length c, .int .i64 no, .slice B x.length cb, .slice C y.length cc, .int .i64 o]] W fun e W' => e = .returned (.bool true) ∧ Below W.heap.size W W' := by
  have HT := Lib.hid hT
  have R0 := Lib.hid hr
  have S0 := Lib.hid hs
  have S1 := Lib.hid hw
  have CF := Lib.hid (fun w (hB : Below W.heap.size W w) (h : RdF w w.heap.size A l) => refFew_any t A l c w hc hcm h)
  by_cases hF : fewF l = true
  case neg =>
    rw [Bool.not_eq_true] at hF
    rw [hF] at CF
    clear hr hc hz hcm hs hx hxm hw hy hym
    obtain ⟨n, hn⟩ : ∃ n, n = l.length := ⟨_, rfl⟩
    rw [← hn] at CF
    rw [← hn]
    clear hn
    generalize x.length = mx at *
    generalize y.length = my at *
    obtain ⟨V0, hV, hb, hg, hg2⟩ := box2 W #[.int .i64 t, .slice A n c, .int .i64 no, .slice B mx cb, .slice C my cc, .int .i64 o] #[.int .i64 t, .slice A n c] 53 24
    have HB := Lib.hid hb
    have G0 := Lib.hid hg2
    have nR0 := Lib.hid ((R0.out.below hb (Nat.le_refl _)).more hb.size)
    have nS0 := Lib.hid ((S0.out.below hb (Nat.le_refl _)).more hb.size)
    have nS1 := Lib.hid ((S1.out.below hb (Nat.le_refl _)).more hb.size)
    have HV := Lib.hid hV
    have y0 : (W.alloc (.cells #[.int .i64 t, .slice A n c, .int .i64 no, .slice B mx cb, .slice C my cc, .int .i64 o] 53)).cell? ⟨W.heap.size, 0, none⟩ = some (.int .i64 t) := (cell_of_row _ _ _ _ _ _ (heap_alloc_new W _)).trans rfl
    have y1 : (W.alloc (.cells #[.int .i64 t, .slice A n c, .int .i64 no, .slice B mx cb, .slice C my cc, .int .i64 o] 53)).cell? ⟨W.heap.size, 1, none⟩ = some (.slice A n c) := (cell_of_row _ _ _ _ _ _ (heap_alloc_new W _)).trans rfl
    have y2 : V0.cell? ⟨W.heap.size, 2, none⟩ = some (.int .i64 no) := (cell_of_row _ _ _ _ _ _ hg).trans rfl
    have y3 : V0.cell? ⟨W.heap.size, 3, none⟩ = some (.slice B mx cb) := (cell_of_row _ _ _ _ _ _ hg).trans rfl
    have y4 : V0.cell? ⟨W.heap.size, 4, none⟩ = some (.slice C my cc) := (cell_of_row _ _ _ _ _ _ hg).trans rfl
    have y5 : V0.cell? ⟨W.heap.size, 5, none⟩ = some (.int .i64 o) := (cell_of_row _ _ _ _ _ _ hg).trans rfl
    rw [hV] at y2 y3 y4 y5
    clear hb hg hg2 hV
    clear R0 S0 S1
    have R0 := nR0
    have S0 := nS0
    have S1 := nS1
    clear nR0 nS0 nS1
    go_enter Tryd.func7, Tryd.ntmps7
    go_wp2_with fail
    clear y0 y1 y2 y3 y4 y5
    rw [← HV.out]
    clear HV
    refine (shown7_any _ (HT.out.below HB.out)).mono ?_
    rintro e w1 ⟨rfl, hb⟩
    have nHB := Lib.hid (belG HB.out hb HB.out.size)
    have nR0 := Lib.hid ((R0.out.below hb (Nat.le_refl _)).more hb.size)
    have nS0 := Lib.hid ((S0.out.below hb (Nat.le_refl _)).more hb.size)
    have nS1 := Lib.hid ((S1.out.below hb (Nat.le_refl _)).more hb.size)
    have nG0 := Lib.hid (oldG G0.out hb (Nat.le_refl _))
    clear hb
    clear HB R0 S0 S1 G0
    have HB := nHB
    have R0 := nR0
    have S0 := nS0
    have S1 := nS1
    have G0 := nG0
    clear nHB nR0 nS0 nS1 nG0
    obtain ⟨g0x, g0y⟩ := cG2 G0.out
    go_wp2_with fail
    clear g0x g0y
    refine (CF.out _ HB.out R0.out).mono ?_
    rintro e w2 ⟨rfl, hb⟩
    have nHB := Lib.hid (belG HB.out hb HB.out.size)
    have nR0 := Lib.hid ((R0.out.below hb (Nat.le_refl _)).more hb.size)
    have nS0 := Lib.hid ((S0.out.below hb (Nat.le_refl _)).more hb.size)
    have nS1 := Lib.hid ((S1.out.below hb (Nat.le_refl _)).more hb.size)
    have nG0 := Lib.hid (oldG G0.out hb (Nat.le_refl _))
    clear hb
    clear HB R0 S0 S1 G0
    have HB := nHB
    have R0 := nR0
    have S0 := nS0
    have S1 := nS1
    have G0 := nG0
    clear nHB nR0 nS0 nS1 nG0
    go_wp2_with fail
    go_ret
    exact ⟨rfl, HB.out⟩
  have hok := few_ok hF hz
  obtain ⟨hl40, hl450⟩ := few_parts hF
  rw [hF] at CF
  have CR := Lib.hid (fun w (hB : Below W.heap.size W w) (h : RdF w w.heap.size A l) => refRightM_any t A l c w ht (by omega) (fun x hx => by have := hl450 x hx; omega) hc hcm h)
  by_cases hR : RightM t l
  case neg =>
    rw [decide_eq_false hR] at CR
    clear hr hc hz hcm hs hx hxm hw hy hym hF hok hl40 hl450 hR
    obtain ⟨n, hn⟩ : ∃ n, n = l.length := ⟨_, rfl⟩
    rw [← hn] at CF CR
    rw [← hn]
    clear hn
    generalize x.length = mx at *
    generalize y.length = my at *
    obtain ⟨V0, hV, hb, hg, hg2⟩ := box2 W #[.int .i64 t, .slice A n c, .int .i64 no, .slice B mx cb, .slice C my cc, .int .i64 o] #[.int .i64 t, .slice A n c] 53 24
    have HB := Lib.hid hb
    have G0 := Lib.hid hg2
    have nR0 := Lib.hid ((R0.out.below hb (Nat.le_refl _)).more hb.size)
    have nS0 := Lib.hid ((S0.out.below hb (Nat.le_refl _)).more hb.size)
    have nS1 := Lib.hid ((S1.out.below hb (Nat.le_refl _)).more hb.size)
    have HV := Lib.hid hV
    have y0 : (W.alloc (.cells #[.int .i64 t, .slice A n c, .int .i64 no, .slice B mx cb, .slice C my cc, .int .i64 o] 53)).cell? ⟨W.heap.size, 0, none⟩ = some (.int .i64 t) := (cell_of_row _ _ _ _ _ _ (heap_alloc_new W _)).trans rfl
    have y1 : (W.alloc (.cells #[.int .i64 t, .slice A n c, .int .i64 no, .slice B mx cb, .slice C my cc, .int .i64 o] 53)).cell? ⟨W.heap.size, 1, none⟩ = some (.slice A n c) := (cell_of_row _ _ _ _ _ _ (heap_alloc_new W _)).trans rfl
    have y2 : V0.cell? ⟨W.heap.size, 2, none⟩ = some (.int .i64 no) := (cell_of_row _ _ _ _ _ _ hg).trans rfl
    have y3 : V0.cell? ⟨W.heap.size, 3, none⟩ = some (.slice B mx cb) := (cell_of_row _ _ _ _ _ _ hg).trans rfl
    have y4 : V0.cell? ⟨W.heap.size, 4, none⟩ = some (.slice C my cc) := (cell_of_row _ _ _ _ _ _ hg).trans rfl
    have y5 : V0.cell? ⟨W.heap.size, 5, none⟩ = some (.int .i64 o) := (cell_of_row _ _ _ _ _ _ hg).trans rfl
    rw [hV] at y2 y3 y4 y5
    clear hb hg hg2 hV
    clear R0 S0 S1
    have R0 := nR0
    have S0 := nS0
    have S1 := nS1
    clear nR0 nS0 nS1
    go_enter Tryd.func7, Tryd.ntmps7
    go_wp2_with fail
    clear y0 y1 y2 y3 y4 y5
    rw [← HV.out]
    clear HV
    refine (shown7_any _ (HT.out.below HB.out)).mono ?_
    rintro e w1 ⟨rfl, hb⟩
    have nHB := Lib.hid (belG HB.out hb HB.out.size)
    have nR0 := Lib.hid ((R0.out.below hb (Nat.le_refl _)).more hb.size)
    have nS0 := Lib.hid ((S0.out.below hb (Nat.le_refl _)).more hb.size)
    have nS1 := Lib.hid ((S1.out.below hb (Nat.le_refl _)).more hb.size)
    have nG0 := Lib.hid (oldG G0.out hb (Nat.le_refl _))
    clear hb
    clear HB R0 S0 S1 G0
    have HB := nHB
    have R0 := nR0
    have S0 := nS0
    have S1 := nS1
    have G0 := nG0
    clear nHB nR0 nS0 nS1 nG0
    obtain ⟨g0x, g0y⟩ := cG2 G0.out
    go_wp2_with fail
    clear g0x g0y
    refine (CF.out _ HB.out R0.out).mono ?_
    rintro e w2 ⟨rfl, hb⟩
    have nHB := Lib.hid (belG HB.out hb HB.out.size)
    have nR0 := Lib.hid ((R0.out.below hb (Nat.le_refl _)).more hb.size)
    have nS0 := Lib.hid ((S0.out.below hb (Nat.le_refl _)).more hb.size)
    have nS1 := Lib.hid ((S1.out.below hb (Nat.le_refl _)).more hb.size)
    have nG0 := Lib.hid (oldG G0.out hb (Nat.le_refl _))
    clear hb
    clear HB R0 S0 S1 G0
    have HB := nHB
    have R0 := nR0
    have S0 := nS0
    have S1 := nS1
    have G0 := nG0
    clear nHB nR0 nS0 nS1 nG0
    obtain ⟨g0x, g0y⟩ := cG2 G0.out
    go_wp2_with fail
    clear g0x g0y
    refine (CR.out _ HB.out R0.out).mono ?_
    rintro e w3 ⟨rfl, hb⟩
    have nHB := Lib.hid (belG HB.out hb HB.out.size)
    have nR0 := Lib.hid ((R0.out.below hb (Nat.le_refl _)).more hb.size)
    have nS0 := Lib.hid ((S0.out.below hb (Nat.le_refl _)).more hb.size)
    have nS1 := Lib.hid ((S1.out.below hb (Nat.le_refl _)).more hb.size)
    have nG0 := Lib.hid (oldG G0.out hb (Nat.le_refl _))
    clear hb
    clear HB R0 S0 S1 G0
    have HB := nHB
    have R0 := nR0
    have S0 := nS0
    have S1 := nS1
    have G0 := nG0
    clear nHB nR0 nS0 nS1 nG0
    go_wp2_with fail
    go_ret
    exact ⟨rfl, HB.out⟩
  rw [decide_eq_true hR] at CR
  by_cases h450 : 450 < x.length
  case pos =>
    have i0 : (450 : Int) < (x.length : Int) := by omega
    clear hr hc hz hcm hs hx hxm hw hy hym hF hok hl40 hl450 hR
    obtain ⟨n, hn⟩ : ∃ n, n = l.length := ⟨_, rfl⟩
    rw [← hn] at CF CR
    rw [← hn]
    clear hn
    generalize x.length = mx at *
    generalize y.length = my at *
    obtain ⟨V0, hV, hb, hg, hg2⟩ := box2 W #[.int .i64 t, .slice A n c, .int .i64 no, .slice B mx cb, .slice C my cc, .int .i64 o] #[.int .i64 t, .slice A n c] 53 24
    have HB := Lib.hid hb
    have G0 := Lib.hid hg2
    have nR0 := Lib.hid ((R0.out.below hb (Nat.le_refl _)).more hb.size)
    have nS0 := Lib.hid ((S0.out.below hb (Nat.le_refl _)).more hb.size)
    have nS1 := Lib.hid ((S1.out.below hb (Nat.le_refl _)).more hb.size)
    have HV := Lib.hid hV
    have y0 : (W.alloc (.cells #[.int .i64 t, .slice A n c, .int .i64 no, .slice B mx cb, .slice C my cc, .int .i64 o] 53)).cell? ⟨W.heap.size, 0, none⟩ = some (.int .i64 t) := (cell_of_row _ _ _ _ _ _ (heap_alloc_new W _)).trans rfl
    have y1 : (W.alloc (.cells #[.int .i64 t, .slice A n c, .int .i64 no, .slice B mx cb, .slice C my cc, .int .i64 o] 53)).cell? ⟨W.heap.size, 1, none⟩ = some (.slice A n c) := (cell_of_row _ _ _ _ _ _ (heap_alloc_new W _)).trans rfl
    have y2 : V0.cell? ⟨W.heap.size, 2, none⟩ = some (.int .i64 no) := (cell_of_row _ _ _ _ _ _ hg).trans rfl
    have y3 : V0.cell? ⟨W.heap.size, 3, none⟩ = some (.slice B mx cb) := (cell_of_row _ _ _ _ _ _ hg).trans rfl
    have y4 : V0.cell? ⟨W.heap.size, 4, none⟩ = some (.slice C my cc) := (cell_of_row _ _ _ _ _ _ hg).trans rfl
    have y5 : V0.cell? ⟨W.heap.size, 5, none⟩ = some (.int .i64 o) := (cell_of_row _ _ _ _ _ _ hg).trans rfl
    rw [hV] at y2 y3 y4 y5
    clear hb hg hg2 hV
    clear R0 S0 S1
    have R0 := nR0
    have S0 := nS0
    have S1 := nS1
    clear nR0 nS0 nS1
    go_enter Tryd.func7, Tryd.ntmps7
    go_wp2_with fail
    clear y0 y1 y2 y3 y4 y5
    rw [← HV.out]
    clear HV
    refine (shown7_any _ (HT.out.below HB.out)).mono ?_
    rintro e w1 ⟨rfl, hb⟩
    have nHB := Lib.hid (belG HB.out hb HB.out.size)
    have nR0 := Lib.hid ((R0.out.below hb (Nat.le_refl _)).more hb.size)
    have nS0 := Lib.hid ((S0.out.below hb (Nat.le_refl _)).more hb.size)
    have nS1 := Lib.hid ((S1.out.below hb (Nat.le_refl _)).more hb.size)
    have nG0 := Lib.hid (oldG G0.out hb (Nat.le_refl _))
    clear hb
    clear HB R0 S0 S1 G0
    have HB := nHB
    have R0 := nR0
    have S0 := nS0
    have S1 := nS1
    have G0 := nG0
    clear nHB nR0 nS0 nS1 nG0
    obtain ⟨g0x, g0y⟩ := cG2 G0.out
    go_wp2_with fail
    clear g0x g0y
    refine (CF.out _ HB.out R0.out).mono ?_
    rintro e w2 ⟨rfl, hb⟩
    have nHB := Lib.hid (belG HB.out hb HB.out.size)
    have nR0 := Lib.hid ((R0.out.below hb (Nat.le_refl _)).more hb.size)
    have nS0 := Lib.hid ((S0.out.below hb (Nat.le_refl _)).more hb.size)
    have nS1 := Lib.hid ((S1.out.below hb (Nat.le_refl _)).more hb.size)
    have nG0 := Lib.hid (oldG G0.out hb (Nat.le_refl _))
    clear hb
    clear HB R0 S0 S1 G0
    have HB := nHB
    have R0 := nR0
    have S0 := nS0
    have S1 := nS1
    have G0 := nG0
    clear nHB nR0 nS0 nS1 nG0
    obtain ⟨g0x, g0y⟩ := cG2 G0.out
    go_wp2_with fail
    clear g0x g0y
    refine (CR.out _ HB.out R0.out).mono ?_
    rintro e w3 ⟨rfl, hb⟩
    have nHB := Lib.hid (belG HB.out hb HB.out.size)
    have nR0 := Lib.hid ((R0.out.below hb (Nat.le_refl _)).more hb.size)
    have nS0 := Lib.hid ((S0.out.below hb (Nat.le_refl _)).more hb.size)
    have nS1 := Lib.hid ((S1.out.below hb (Nat.le_refl _)).more hb.size)
    have nG0 := Lib.hid (oldG G0.out hb (Nat.le_refl _))
    clear hb
    clear HB R0 S0 S1 G0
    have HB := nHB
    have R0 := nR0
    have S0 := nS0
    have S1 := nS1
    have G0 := nG0
    clear nHB nR0 nS0 nS1 nG0
    go_wp2_with fail
    go_ret
    exact ⟨rfl, HB.out⟩
  have i0 : ¬ (450 : Int) < (x.length : Int) := by omega
  by_cases h451 : 450 < y.length
  case pos =>
    have i1 : (450 : Int) < (y.length : Int) := by omega
    clear hr hc hz hcm hs hx hxm hw hy hym hF hok hl40 hl450 hR
    obtain ⟨n, hn⟩ : ∃ n, n = l.length := ⟨_, rfl⟩
    rw [← hn] at CF CR
    rw [← hn]
    clear hn
    generalize x.length = mx at *
    generalize y.length = my at *
    obtain ⟨V0, hV, hb, hg, hg2⟩ := box2 W #[.int .i64 t, .slice A n c, .int .i64 no, .slice B mx cb, .slice C my cc, .int .i64 o] #[.int .i64 t, .slice A n c] 53 24
    have HB := Lib.hid hb
    have G0 := Lib.hid hg2
    have nR0 := Lib.hid ((R0.out.below hb (Nat.le_refl _)).more hb.size)
    have nS0 := Lib.hid ((S0.out.below hb (Nat.le_refl _)).more hb.size)
    have nS1 := Lib.hid ((S1.out.below hb (Nat.le_refl _)).more hb.size)
    have HV := Lib.hid hV
    have y0 : (W.alloc (.cells #[.int .i64 t, .slice A n c, .int .i64 no, .slice B mx cb, .slice C my cc, .int .i64 o] 53)).cell? ⟨W.heap.size, 0, none⟩ = some (.int .i64 t) := (cell_of_row _ _ _ _ _ _ (heap_alloc_new W _)).trans rfl
    have y1 : (W.alloc (.cells #[.int .i64 t, .slice A n c, .int .i64 no, .slice B mx cb, .slice C my cc, .int .i64 o] 53)).cell? ⟨W.heap.size, 1, none⟩ = some (.slice A n c) := (cell_of_row _ _ _ _ _ _ (heap_alloc_new W _)).trans rfl
    have y2 : V0.cell? ⟨W.heap.size, 2, none⟩ = some (.int .i64 no) := (cell_of_row _ _ _ _ _ _ hg).trans rfl
    have y3 : V0.cell? ⟨W.heap.size, 3, none⟩ = some (.slice B mx cb) := (cell_of_row _ _ _ _ _ _ hg).trans rfl
    have y4 : V0.cell? ⟨W.heap.size, 4, none⟩ = some (.slice C my cc) := (cell_of_row _ _ _ _ _ _ hg).trans rfl
    have y5 : V0.cell? ⟨W.heap.size, 5, none⟩ = some (.int .i64 o) := (cell_of_row _ _ _ _ _ _ hg).trans rfl
    rw [hV] at y2 y3 y4 y5
    clear hb hg hg2 hV
    clear R0 S0 S1
    have R0 := nR0
    have S0 := nS0
    have S1 := nS1
    clear nR0 nS0 nS1
    go_enter Tryd.func7, Tryd.ntmps7
    go_wp2_with fail
    clear y0 y1 y2 y3 y4 y5
    rw [← HV.out]
    clear HV
    refine (shown7_any _ (HT.out.below HB.out)).mono ?_
    rintro e w1 ⟨rfl, hb⟩
    have nHB := Lib.hid (belG HB.out hb HB.out.size)
    have nR0 := Lib.hid ((R0.out.below hb (Nat.le_refl _)).more hb.size)
    have nS0 := Lib.hid ((S0.out.below hb (Nat.le_refl _)).more hb.size)
    have nS1 := Lib.hid ((S1.out.below hb (Nat.le_refl _)).more hb.size)
    have nG0 := Lib.hid (oldG G0.out hb (Nat.le_refl _))
    clear hb
    clear HB R0 S0 S1 G0
    have HB := nHB
    have R0 := nR0
    have S0 := nS0
    have S1 := nS1
    have G0 := nG0
    clear nHB nR0 nS0 nS1 nG0
    obtain ⟨g0x, g0y⟩ := cG2 G0.out
    go_wp2_with fail
    clear g0x g0y
    refine (CF.out _ HB.out R0.out).mono ?_
    rintro e w2 ⟨rfl, hb⟩
    have nHB := Lib.hid (belG HB.out hb HB.out.size)
    have nR0 := Lib.hid ((R0.out.below hb (Nat.le_refl _)).more hb.size)
    have nS0 := Lib.hid ((S0.out.below hb (Nat.le_refl _)).more hb.size)
    have nS1 := Lib.hid ((S1.out.below hb (Nat.le_refl _)).more hb.size)
    have nG0 := Lib.hid (oldG G0.out hb (Nat.le_refl _))
    clear hb
    clear HB R0 S0 S1 G0
    have HB := nHB
    have R0 := nR0
    have S0 := nS0
    have S1 := nS1
    have G0 := nG0
    clear nHB nR0 nS0 nS1 nG0
    obtain ⟨g0x, g0y⟩ := cG2 G0.out
    go_wp2_with fail
    clear g0x g0y
    refine (CR.out _ HB.out R0.out).mono ?_
    rintro e w3 ⟨rfl, hb⟩
    have nHB := Lib.hid (belG HB.out hb HB.out.size)
    have nR0 := Lib.hid ((R0.out.below hb (Nat.le_refl _)).more hb.size)
    have nS0 := Lib.hid ((S0.out.below hb (Nat.le_refl _)).more hb.size)
    have nS1 := Lib.hid ((S1.out.below hb (Nat.le_refl _)).more hb.size)
    have nG0 := Lib.hid (oldG G0.out hb (Nat.le_refl _))
    clear hb
    clear HB R0 S0 S1 G0
    have HB := nHB
    have R0 := nR0
    have S0 := nS0
    have S1 := nS1
    have G0 := nG0
    clear nHB nR0 nS0 nS1 nG0
    go_wp2_with fail
    go_ret
    exact ⟨rfl, HB.out⟩
  have i1 : ¬ (450 : Int) < (y.length : Int) := by omega
  have CS1 := Lib.hid (fun w (hB : Below W.heap.size W w) (h : RdF w w.heap.size A l) (hs : Rd w w.heap.size B x) => iSet_any t A l c no B x cb w hR hc hcm h hno (by omega) hx hxm hs (hT.below hB))
  by_cases hfx : fitsF no x = true
  case neg =>
    have hE : setE no x ≠ 0 := by unfold setE; rw [if_neg hfx]; split <;> decide
    rw [show setM l no x = l from if_neg hfx] at CS1
    have SM := Lib.hid (fun (A1 A2 : Option Addr) (c1 c2 : Nat) w (hB : Below W.heap.size W w) (p1 : l.length ≤ c1) (p2 : c1 ≤ 9223372036854775807) (h1 : RdF w w.heap.size A1 l) (h2 : RdF w w.heap.size A2 l) => refSameM_any t t A1 A2 l l c1 c2 w p1 p2 h1 h2)
    simp only [and_self, decide_true] at SM
    unfold AnsMx at CS1
    obtain ⟨E, hE'⟩ : ∃ E, E = setE no x := ⟨_, rfl⟩
    rw [← hE'] at CS1 hE
    have hEb : (E != 0) = true := by simpa using hE
    clear hr hc hz hcm hs hx hxm hw hy hym hF hok hl40 hl450 hR hfx hE' hE
    obtain ⟨n, hn⟩ : ∃ n, n = l.length := ⟨_, rfl⟩
    rw [← hn] at CF CR CS1 SM
    rw [← hn]
    clear hn
    generalize x.length = mx at *
    generalize y.length = my at *
    obtain ⟨V0, hV, hb, hg, hg2⟩ := box2 W #[.int .i64 t, .slice A n c, .int .i64 no, .slice B mx cb, .slice C my cc, .int .i64 o] #[.int .i64 t, .slice A n c] 53 24
    have HB := Lib.hid hb
    have G0 := Lib.hid hg2
    have nR0 := Lib.hid ((R0.out.below hb (Nat.le_refl _)).more hb.size)
    have nS0 := Lib.hid ((S0.out.below hb (Nat.le_refl _)).more hb.size)
    have nS1 := Lib.hid ((S1.out.below hb (Nat.le_refl _)).more hb.size)
    have HV := Lib.hid hV
    have y0 : (W.alloc (.cells #[.int .i64 t, .slice A n c, .int .i64 no, .slice B mx cb, .slice C my cc, .int .i64 o] 53)).cell? ⟨W.heap.size, 0, none⟩ = some (.int .i64 t) := (cell_of_row _ _ _ _ _ _ (heap_alloc_new W _)).trans rfl
    have y1 : (W.alloc (.cells #[.int .i64 t, .slice A n c, .int .i64 no, .slice B mx cb, .slice C my cc, .int .i64 o] 53)).cell? ⟨W.heap.size, 1, none⟩ = some (.slice A n c) := (cell_of_row _ _ _ _ _ _ (heap_alloc_new W _)).trans rfl
    have y2 : V0.cell? ⟨W.heap.size, 2, none⟩ = some (.int .i64 no) := (cell_of_row _ _ _ _ _ _ hg).trans rfl
    have y3 : V0.cell? ⟨W.heap.size, 3, none⟩ = some (.slice B mx cb) := (cell_of_row _ _ _ _ _ _ hg).trans rfl
    have y4 : V0.cell? ⟨W.heap.size, 4, none⟩ = some (.slice C my cc) := (cell_of_row _ _ _ _ _ _ hg).trans rfl
    have y5 : V0.cell? ⟨W.heap.size, 5, none⟩ = some (.int .i64 o) := (cell_of_row _ _ _ _ _ _ hg).trans rfl
    rw [hV] at y2 y3 y4 y5
    clear hb hg hg2 hV
    clear R0 S0 S1
    have R0 := nR0
    have S0 := nS0
    have S1 := nS1
    clear nR0 nS0 nS1
    go_enter Tryd.func7, Tryd.ntmps7
    go_wp2_with fail
    clear y0 y1 y2 y3 y4 y5
    rw [← HV.out]
    clear HV
    refine (shown7_any _ (HT.out.below HB.out)).mono ?_
    rintro e w1 ⟨rfl, hb⟩
    have nHB := Lib.hid (belG HB.out hb HB.out.size)
    have nR0 := Lib.hid ((R0.out.below hb (Nat.le_refl _)).more hb.size)
    have nS0 := Lib.hid ((S0.out.below hb (Nat.le_refl _)).more hb.size)
    have nS1 := Lib.hid ((S1.out.below hb (Nat.le_refl _)).more hb.size)
    have nG0 := Lib.hid (oldG G0.out hb (Nat.le_refl _))
    clear hb
    clear HB R0 S0 S1 G0
    have HB := nHB
    have R0 := nR0
    have S0 := nS0
    have S1 := nS1
    have G0 := nG0
    clear nHB nR0 nS0 nS1 nG0
    obtain ⟨g0x, g0y⟩ := cG2 G0.out
    go_wp2_with fail
    clear g0x g0y
    refine (CF.out _ HB.out R0.out).mono ?_
    rintro e w2 ⟨rfl, hb⟩
    have nHB := Lib.hid (belG HB.out hb HB.out.size)
    have nR0 := Lib.hid ((R0.out.below hb (Nat.le_refl _)).more hb.size)
    have nS0 := Lib.hid ((S0.out.below hb (Nat.le_refl _)).more hb.size)
    have nS1 := Lib.hid ((S1.out.below hb (Nat.le_refl _)).more hb.size)
    have nG0 := Lib.hid (oldG G0.out hb (Nat.le_refl _))
    clear hb
    clear HB R0 S0 S1 G0
    have HB := nHB
    have R0 := nR0
    have S0 := nS0
    have S1 := nS1
    have G0 := nG0
    clear nHB nR0 nS0 nS1 nG0
    obtain ⟨g0x, g0y⟩ := cG2 G0.out
    go_wp2_with fail
    clear g0x g0y
    refine (CR.out _ HB.out R0.out).mono ?_
    rintro e w3 ⟨rfl, hb⟩
    have nHB := Lib.hid (belG HB.out hb HB.out.size)
    have nR0 := Lib.hid ((R0.out.below hb (Nat.le_refl _)).more hb.size)
    have nS0 := Lib.hid ((S0.out.below hb (Nat.le_refl _)).more hb.size)
    have nS1 := Lib.hid ((S1.out.below hb (Nat.le_refl _)).more hb.size)
    have nG0 := Lib.hid (oldG G0.out hb (Nat.le_refl _))
    clear hb
    clear HB R0 S0 S1 G0
    have HB := nHB
    have R0 := nR0
    have S0 := nS0
    have S1 := nS1
    have G0 := nG0
    clear nHB nR0 nS0 nS1 nG0
    obtain ⟨g0x, g0y⟩ := cG2 G0.out
    go_wp2_with fail
    clear g0x g0y
    refine (CS1.out _ HB.out R0.out S0.out).mono ?_
    rintro e w4 ⟨⟨A1, c1, rfl, p1, p2, h1⟩, hb⟩
    have nHB := Lib.hid (belG HB.out hb HB.out.size)
    have nR0 := Lib.hid ((R0.out.below hb (Nat.le_refl _)).more hb.size)
    have nS0 := Lib.hid ((S0.out.below hb (Nat.le_refl _)).more hb.size)
    have nS1 := Lib.hid ((S1.out.below hb (Nat.le_refl _)).more hb.size)
    have nG0 := Lib.hid (oldG G0.out hb (Nat.le_refl _))
    clear hb
    clear HB R0 S0 S1 G0
    have HB := nHB
    have R0 := nR0
    have S0 := nS0
    have S1 := nS1
    have G0 := nG0
    clear nHB nR0 nS0 nS1 nG0
    have R1 := Lib.hid h1
    clear h1
    obtain ⟨V4, hV4⟩ : ∃ V, V = w4.alloc (.cells #[.int .i64 t, .slice A1 n c1] 24) := ⟨_, rfl⟩
    have ha := (Below.refl w4.heap.size w4).alloc (Nat.le_refl _) (.cells #[.int .i64 t, .slice A1 n c1] 24)
    have hg := heap_alloc_new w4 (.cells #[.int .i64 t, .slice A1 n c1] 24)
    have nHB := Lib.hid (HB.out.alloc HB.out.size (.cells #[.int .i64 t, .slice A1 n c1] 24))
    rw [← hV4] at ha hg nHB
    have nR0 := Lib.hid ((R0.out.below ha (Nat.le_refl _)).more ha.size)
    have nS0 := Lib.hid ((S0.out.below ha (Nat.le_refl _)).more ha.size)
    have nS1 := Lib.hid ((S1.out.below ha (Nat.le_refl _)).more ha.size)
    have nR1 := Lib.hid ((R1.out.below ha (Nat.le_refl _)).more ha.size)
    have nG0 := Lib.hid (oldG G0.out ha (Nat.le_refl _))
    obtain ⟨g1, hg1⟩ : ∃ g, g = w4.heap.size := ⟨_, rfl⟩
    rw [← hg1] at hg
    have HXG1 := Lib.hid hg1
    have G1 := Lib.hid hg
    have HV := Lib.hid hV4
    clear ha hg hV4 hg1
    clear HB R0 S0 S1 R1 G0
    have HB := nHB
    have R0 := nR0
    have S0 := nS0
    have S1 := nS1
    have R1 := nR1
    have G0 := nG0
    clear nHB nR0 nS0 nS1 nR1 nG0
    obtain ⟨g0x, g0y⟩ := cG2 G0.out
    rw [HV.out] at g0x g0y
    obtain ⟨g1x, g1y⟩ := cG2 G1.out
    rw [HV.out] at g1x g1y
    rw [HXG1.out] at g1x g1y
    go_wp2_with fail
    clear g0x g0y g1x g1y
    rw [← HV.out]
    (try rw [← HXG1.out])
    clear HV HXG1
    refine (SM.out A1 A c1 c _ HB.out p1 p2 R1.out R0.out).mono ?_
    rintro e w5 ⟨rfl, hb⟩
    have nHB := Lib.hid (belG HB.out hb HB.out.size)
    have nR0 := Lib.hid ((R0.out.below hb (Nat.le_refl _)).more hb.size)
    have nS0 := Lib.hid ((S0.out.below hb (Nat.le_refl _)).more hb.size)
    have nS1 := Lib.hid ((S1.out.below hb (Nat.le_refl _)).more hb.size)
    have nR1 := Lib.hid ((R1.out.below hb (Nat.le_refl _)).more hb.size)
    have nG0 := Lib.hid (oldG G0.out hb (Nat.le_refl _))
    have nG1 := Lib.hid (oldG G1.out hb (Nat.le_refl _))
    clear hb
    clear HB R0 S0 S1 R1 G0 G1
    have HB := nHB
    have R0 := nR0
    have S0 := nS0
    have S1 := nS1
    have R1 := nR1
    have G0 := nG0
    have G1 := nG1
    clear nHB nR0 nS0 nS1 nR1 nG0 nG1
    go_wp2_with fail
    go_ret
    exact ⟨by first | rfl | simp, HB.out⟩
  rw [show setM l no x = setL l no x from if_pos hfx, show setE no x = 0 by unfold setE; rw [if_neg (fits_some hfx).1, if_pos hfx]] at CS1
  have hRa := setL_right hR hfx
  have hRd := drop_right (no := no) hR
  have hup := (rightM_iff.1 hR).2.2
  have hds := drop_set l no x hup
  have hga := get_set l no x
  have hgd := get_drop l no
  have CG1 := Lib.hid (fun (A1 : Option Addr) (c1 : Nat) w (hB : Below W.heap.size W w) (p1 : (setL l no x).length ≤ c1) (p2 : c1 ≤ 9223372036854775807) (h : RdF w w.heap.size A1 (setL l no x)) => iGet_any t A1 (setL l no x) c1 no w hRa p1 p2 h hno (hT.below hB))
  have CS2 := Lib.hid (fun (A1 : Option Addr) (c1 : Nat) w (hB : Below W.heap.size W w) (p1 : (setL l no x).length ≤ c1) (p2 : c1 ≤ 9223372036854775807) (h : RdF w w.heap.size A1 (setL l no x)) (hw : Rd w w.heap.size C y) => iSet_any t A1 (setL l no x) c1 no C y cc w hRa p1 p2 h hno (by omega) hy hym hw (hT.below hB))
  have CS3 := Lib.hid (fun w (hB : Below W.heap.size W w) (h : RdF w w.heap.size A l) (hw : Rd w w.heap.size C y) => iSet_any t A l c no C y cc w hR hc hcm h hno (by omega) hy hym hw (hT.below hB))
  have CD1 := Lib.hid (fun (A1 : Option Addr) (c1 : Nat) w (hB : Below W.heap.size W w) (p1 : (setL l no x).length ≤ c1) (p2 : c1 ≤ 9223372036854775807) (h : RdF w w.heap.size A1 (setL l no x)) => iDrop_any t A1 (setL l no x) c1 no w hRa p1 p2 h hno (hT.below hB))
  have CG2 := Lib.hid (fun (A1 : Option Addr) (c1 : Nat) w (hB : Below W.heap.size W w) (p1 : (dropF l no).length ≤ c1) (p2 : c1 ≤ 9223372036854775807) (h : RdF w w.heap.size A1 (dropF l no)) => iGet_any t A1 (dropF l no) c1 no w hRd p1 p2 h hno (hT.below hB))
  have CG3 := Lib.hid (fun w (hB : Below W.heap.size W w) (h : RdF w w.heap.size A l) => iGet_any t A l c o w hR hc hcm h ho (hT.below hB))
  have CG4 := Lib.hid (fun (A1 : Option Addr) (c1 : Nat) w (hB : Below W.heap.size W w) (p1 : (setL l no x).length ≤ c1) (p2 : c1 ≤ 9223372036854775807) (h : RdF w w.heap.size A1 (setL l no x)) => iGet_any t A1 (setL l no x) c1 o w hRa p1 p2 h ho (hT.below hB))
  have CG5 := Lib.hid (fun (A1 : Option Addr) (c1 : Nat) w (hB : Below W.heap.size W w) (p1 : (dropF l no).length ≤ c1) (p2 : c1 ≤ 9223372036854775807) (h : RdF w w.heap.size A1 (dropF l no)) => iGet_any t A1 (dropF l no) c1 o w hRd p1 p2 h ho (hT.below hB))
  have SX := Lib.hid (fun (A1 A2 : Option Addr) (c1 c2 : Nat) w (hB : Below W.heap.size W w) (h1 : Rd w w.heap.size A1 x) (h2 : Rd w w.heap.size A2 x) => same_any A1 A2 x x c1 c2 _ _ w h1 h2)
  have CRa := Lib.hid (fun (A1 : Option Addr) (c1 : Nat) w (hB : Below W.heap.size W w) (p1 : (setL l no x).length ≤ c1) (p2 : c1 ≤ 9223372036854775807) (h : RdF w w.heap.size A1 (setL l no x)) => refRightM_any t A1 (setL l no x) c1 w ht (by have := hRa.ok.len; omega) (fun z hz => by have := hRa.ok.small z hz; omega) p1 p2 h)
  have CRd := Lib.hid (fun (A1 : Option Addr) (c1 : Nat) w (hB : Below W.heap.size W w) (p1 : (dropF l no).length ≤ c1) (p2 : c1 ≤ 9223372036854775807) (h : RdF w w.heap.size A1 (dropF l no)) => refRightM_any t A1 (dropF l no) c1 w ht (by have := hRd.ok.len; omega) (fun z hz => by have := hRd.ok.small z hz; omega) p1 p2 h)
  have CD2 := Lib.hid (fun w (hB : Below W.heap.size W w) (h : RdF w w.heap.size A l) => iDrop_any t A l c no w hR hc hcm h hno (hT.below hB))
  have SD := Lib.hid (fun (A1 A2 : Option Addr) (c1 c2 : Nat) w (hB : Below W.heap.size W w) (p1 : (dropF l no).length ≤ c1) (p2 : c1 ≤ 9223372036854775807) (h1 : RdF w w.heap.size A1 (dropF l no)) (h2 : RdF w w.heap.size A2 (dropF l no)) => refSameM_any t t A1 A2 (dropF l no) (dropF l no) c1 c2 w p1 p2 h1 h2)
  rw [hga.1, hga.2] at CG1
  rw [hds] at CD1
  rw [hgd.1, hgd.2] at CG2
  rw [decide_eq_true hRa] at CRa
  rw [decide_eq_true hRd] at CRd
  simp only [and_self, decide_true] at SX SD
  simp only [List.length_nil] at CG2
  unfold AnsMx at CS1 CS2 CS3
  unfold AnsM at CD1 CD2
  by_cases hfy : fitsF no y = true
  case pos =>
    by_cases heq : no = o
    · rw [show setM (setL l no x) no y = setL l no y by unfold setM; rw [if_pos hfy, set_set]] at CS2
      rw [show setM l no y = setL l no y from if_pos hfy] at CS3
      rw [show setE no y = 0 by unfold setE; rw [if_neg (fits_some hfy).1, if_pos hfy]] at CS2 CS3
      have SM := Lib.hid (fun (A1 A2 : Option Addr) (c1 c2 : Nat) w (hB : Below W.heap.size W w) (p1 : (setL l no y).length ≤ c1) (p2 : c1 ≤ 9223372036854775807) (h1 : RdF w w.heap.size A1 (setL l no y)) (h2 : RdF w w.heap.size A2 (setL l no y)) => refSameM_any t t A1 A2 (setL l no y) (setL l no y) c1 c2 w p1 p2 h1 h2)
      simp only [and_self, decide_true] at SM
      have hoo : ((o : Int) == (no : Int)) = true := by rw [heq]; simp
      clear heq
      clear hRa hRd hup hds hga hgd hF hok hl40 hl450 hR hfx hfy h450 h451 hr hc hz hcm hs hx hxm hw hy hym
      generalize getY l o = YO at *
      generalize getL l o = LO at *
      generalize LO.length = no1 at *
      generalize getY (setL l no x) o = YO2 at *
      generalize getL (setL l no x) o = LO2 at *
      generalize LO2.length = no2 at *
      generalize getY (dropF l no) o = YO3 at *
      generalize getL (dropF l no) o = LO3 at *
      generalize LO3.length = no3 at *
      generalize setL l no y = LB at *
      generalize LB.length = nb at *
      generalize setL l no x = LA at *
      generalize LA.length = na at *
      generalize dropF l no = LD at *
      generalize LD.length = nd at *
      obtain ⟨n, hn⟩ : ∃ n, n = l.length := ⟨_, rfl⟩
      rw [← hn] at CF CR CS1 CS3 CG3 CD2
      rw [← hn]
      clear hn
      generalize x.length = mx at *
      generalize y.length = my at *
      obtain ⟨V0, hV, hb, hg, hg2⟩ := box2 W #[.int .i64 t, .slice A n c, .int .i64 no, .slice B mx cb, .slice C my cc, .int .i64 o] #[.int .i64 t, .slice A n c] 53 24
      have HB := Lib.hid hb
      have G0 := Lib.hid hg2
      have nR0 := Lib.hid ((R0.out.below hb (Nat.le_refl _)).more hb.size)
      have nS0 := Lib.hid ((S0.out.below hb (Nat.le_refl _)).more hb.size)
      have nS1 := Lib.hid ((S1.out.below hb (Nat.le_refl _)).more hb.size)
      have HV := Lib.hid hV
      have y0 : (W.alloc (.cells #[.int .i64 t, .slice A n c, .int .i64 no, .slice B mx cb, .slice C my cc, .int .i64 o] 53)).cell? ⟨W.heap.size, 0, none⟩ = some (.int .i64 t) := (cell_of_row _ _ _ _ _ _ (heap_alloc_new W _)).trans rfl
      have y1 : (W.alloc (.cells #[.int .i64 t, .slice A n c, .int .i64 no, .slice B mx cb, .slice C my cc, .int .i64 o] 53)).cell? ⟨W.heap.size, 1, none⟩ = some (.slice A n c) := (cell_of_row _ _ _ _ _ _ (heap_alloc_new W _)).trans rfl
      have y2 : V0.cell? ⟨W.heap.size, 2, none⟩ = some (.int .i64 no) := (cell_of_row _ _ _ _ _ _ hg).trans rfl
      have y3 : V0.cell? ⟨W.heap.size, 3, none⟩ = some (.slice B mx cb) := (cell_of_row _ _ _ _ _ _ hg).trans rfl
      have y4 : V0.cell? ⟨W.heap.size, 4, none⟩ = some (.slice C my cc) := (cell_of_row _ _ _ _ _ _ hg).trans rfl
      have y5 : V0.cell? ⟨W.heap.size, 5, none⟩ = some (.int .i64 o) := (cell_of_row _ _ _ _ _ _ hg).trans rfl
      rw [hV] at y2 y3 y4 y5
      clear hb hg hg2 hV
      clear R0 S0 S1
      have R0 := nR0
      have S0 := nS0
      have S1 := nS1
      clear nR0 nS0 nS1
      go_enter Tryd.func7, Tryd.ntmps7
      go_wp2_with fail
      clear y0 y1 y2 y3 y4 y5
      rw [← HV.out]
      clear HV
      refine (shown7_any _ (HT.out.below HB.out)).mono ?_
      rintro e w1 ⟨rfl, hb⟩
      have nHB := Lib.hid (belG HB.out hb HB.out.size)
      have nR0 := Lib.hid ((R0.out.below hb (Nat.le_refl _)).more hb.size)
      have nS0 := Lib.hid ((S0.out.below hb (Nat.le_refl _)).more hb.size)
      have nS1 := Lib.hid ((S1.out.below hb (Nat.le_refl _)).more hb.size)
      have nG0 := Lib.hid (oldG G0.out hb (Nat.le_refl _))
      clear hb
      clear HB R0 S0 S1 G0
      have HB := nHB
      have R0 := nR0
      have S0 := nS0
      have S1 := nS1
      have G0 := nG0
      clear nHB nR0 nS0 nS1 nG0
      obtain ⟨g0x, g0y⟩ := cG2 G0.out
      go_wp2_with fail
      clear g0x g0y
      refine (CF.out _ HB.out R0.out).mono ?_
      rintro e w2 ⟨rfl, hb⟩
      have nHB := Lib.hid (belG HB.out hb HB.out.size)
      have nR0 := Lib.hid ((R0.out.below hb (Nat.le_refl _)).more hb.size)
      have nS0 := Lib.hid ((S0.out.below hb (Nat.le_refl _)).more hb.size)
      have nS1 := Lib.hid ((S1.out.below hb (Nat.le_refl _)).more hb.size)
      have nG0 := Lib.hid (oldG G0.out hb (Nat.le_refl _))
      clear hb
      clear HB R0 S0 S1 G0
      have HB := nHB
      have R0 := nR0
      have S0 := nS0
      have S1 := nS1
      have G0 := nG0
      clear nHB nR0 nS0 nS1 nG0
      obtain ⟨g0x, g0y⟩ := cG2 G0.out
      go_wp2_with fail
      clear g0x g0y
      refine (CR.out _ HB.out R0.out).mono ?_
      rintro e w3 ⟨rfl, hb⟩
      have nHB := Lib.hid (belG HB.out hb HB.out.size)
      have nR0 := Lib.hid ((R0.out.below hb (Nat.le_refl _)).more hb.size)
      have nS0 := Lib.hid ((S0.out.below hb (Nat.le_refl _)).more hb.size)
      have nS1 := Lib.hid ((S1.out.below hb (Nat.le_refl _)).more hb.size)
      have nG0 := Lib.hid (oldG G0.out hb (Nat.le_refl _))
      clear hb
      clear HB R0 S0 S1 G0
      have HB := nHB
      have R0 := nR0
      have S0 := nS0
      have S1 := nS1
      have G0 := nG0
      clear nHB nR0 nS0 nS1 nG0
      obtain ⟨g0x, g0y⟩ := cG2 G0.out
      go_wp2_with fail
      clear g0x g0y
      refine (CS1.out _ HB.out R0.out S0.out).mono ?_
      rintro e w4 ⟨⟨A1, c1, rfl, p1, p2, h1⟩, hb⟩
      have nHB := Lib.hid (belG HB.out hb HB.out.size)
      have nR0 := Lib.hid ((R0.out.below hb (Nat.le_refl _)).more hb.size)
      have nS0 := Lib.hid ((S0.out.below hb (Nat.le_refl _)).more hb.size)
      have nS1 := Lib.hid ((S1.out.below hb (Nat.le_refl _)).more hb.size)
      have nG0 := Lib.hid (oldG G0.out hb (Nat.le_refl _))
      clear hb
      clear HB R0 S0 S1 G0
      have HB := nHB
      have R0 := nR0
      have S0 := nS0
      have S1 := nS1
      have G0 := nG0
      clear nHB nR0 nS0 nS1 nG0
      have R1 := Lib.hid h1
      clear h1
      obtain ⟨V4, hV4⟩ : ∃ V, V = w4.alloc (.cells #[.int .i64 t, .slice A1 na c1] 24) := ⟨_, rfl⟩
      have ha := (Below.refl w4.heap.size w4).alloc (Nat.le_refl _) (.cells #[.int .i64 t, .slice A1 na c1] 24)
      have hg := heap_alloc_new w4 (.cells #[.int .i64 t, .slice A1 na c1] 24)
      have nHB := Lib.hid (HB.out.alloc HB.out.size (.cells #[.int .i64 t, .slice A1 na c1] 24))
      rw [← hV4] at ha hg nHB
      have nR0 := Lib.hid ((R0.out.below ha (Nat.le_refl _)).more ha.size)
      have nS0 := Lib.hid ((S0.out.below ha (Nat.le_refl _)).more ha.size)
      have nS1 := Lib.hid ((S1.out.below ha (Nat.le_refl _)).more ha.size)
      have nR1 := Lib.hid ((R1.out.below ha (Nat.le_refl _)).more ha.size)
      have nG0 := Lib.hid (oldG G0.out ha (Nat.le_refl _))
      obtain ⟨g1, hg1⟩ : ∃ g, g = w4.heap.size := ⟨_, rfl⟩
      rw [← hg1] at hg
      have HXG1 := Lib.hid hg1
      have G1 := Lib.hid hg
      have HV := Lib.hid hV4
      clear ha hg hV4 hg1
      clear HB R0 S0 S1 R1 G0
      have HB := nHB
      have R0 := nR0
      have S0 := nS0
      have S1 := nS1
      have R1 := nR1
      have G0 := nG0
      clear nHB nR0 nS0 nS1 nR1 nG0
      obtain ⟨g1x, g1y⟩ := cG2 G1.out
      rw [HV.out] at g1x g1y
      rw [HXG1.out] at g1x g1y
      go_wp2_with fail
      clear g1x g1y
      rw [← HV.out]
      (try rw [← HXG1.out])
      clear HV HXG1
      refine (CG1.out A1 c1 _ HB.out p1 p2 R1.out).mono ?_
      rintro e w5 ⟨⟨A2, c2, rfl, -, -, h2⟩, hb⟩
      have nHB := Lib.hid (belG HB.out hb HB.out.size)
      have nR0 := Lib.hid ((R0.out.below hb (Nat.le_refl _)).more hb.size)
      have nS0 := Lib.hid ((S0.out.below hb (Nat.le_refl _)).more hb.size)
      have nS1 := Lib.hid ((S1.out.below hb (Nat.le_refl _)).more hb.size)
      have nR1 := Lib.hid ((R1.out.below hb (Nat.le_refl _)).more hb.size)
      have nG0 := Lib.hid (oldG G0.out hb (Nat.le_refl _))
      have nG1 := Lib.hid (oldG G1.out hb (Nat.le_refl _))
      clear hb
      clear HB R0 S0 S1 R1 G0 G1
      have HB := nHB
      have R0 := nR0
      have S0 := nS0
      have S1 := nS1
      have R1 := nR1
      have G0 := nG0
      have G1 := nG1
      clear nHB nR0 nS0 nS1 nR1 nG0 nG1
      have R2 := Lib.hid h2
      clear h2
      obtain ⟨g1x, g1y⟩ := cG2 G1.out
      go_wp2_with fail
      clear g1x g1y
      refine (CS2.out A1 c1 _ HB.out p1 p2 R1.out S1.out).mono ?_
      rintro e w6 ⟨⟨A3, c3, rfl, p3, p4, h3⟩, hb⟩
      have nHB := Lib.hid (belG HB.out hb HB.out.size)
      have nR0 := Lib.hid ((R0.out.below hb (Nat.le_refl _)).more hb.size)
      have nS0 := Lib.hid ((S0.out.below hb (Nat.le_refl _)).more hb.size)
      have nS1 := Lib.hid ((S1.out.below hb (Nat.le_refl _)).more hb.size)
      have nR1 := Lib.hid ((R1.out.below hb (Nat.le_refl _)).more hb.size)
      have nR2 := Lib.hid ((R2.out.below hb (Nat.le_refl _)).more hb.size)
      have nG0 := Lib.hid (oldG G0.out hb (Nat.le_refl _))
      have nG1 := Lib.hid (oldG G1.out hb (Nat.le_refl _))
      clear hb
      clear HB R0 S0 S1 R1 R2 G0 G1
      have HB := nHB
      have R0 := nR0
      have S0 := nS0
      have S1 := nS1
      have R1 := nR1
      have R2 := nR2
      have G0 := nG0
      have G1 := nG1
      clear nHB nR0 nS0 nS1 nR1 nR2 nG0 nG1
      have R3 := Lib.hid h3
      clear h3
      obtain ⟨V6, hV6⟩ : ∃ V, V = w6.alloc (.cells #[.int .i64 t, .slice A3 nb c3] 24) := ⟨_, rfl⟩
      have ha := (Below.refl w6.heap.size w6).alloc (Nat.le_refl _) (.cells #[.int .i64 t, .slice A3 nb c3] 24)
      have hg := heap_alloc_new w6 (.cells #[.int .i64 t, .slice A3 nb c3] 24)
      have nHB := Lib.hid (HB.out.alloc HB.out.size (.cells #[.int .i64 t, .slice A3 nb c3] 24))
      rw [← hV6] at ha hg nHB
      have nR0 := Lib.hid ((R0.out.below ha (Nat.le_refl _)).more ha.size)
      have nS0 := Lib.hid ((S0.out.below ha (Nat.le_refl _)).more ha.size)
      have nS1 := Lib.hid ((S1.out.below ha (Nat.le_refl _)).more ha.size)
      have nR1 := Lib.hid ((R1.out.below ha (Nat.le_refl _)).more ha.size)
      have nR2 := Lib.hid ((R2.out.below ha (Nat.le_refl _)).more ha.size)
      have nR3 := Lib.hid ((R3.out.below ha (Nat.le_refl _)).more ha.size)
      have nG0 := Lib.hid (oldG G0.out ha (Nat.le_refl _))
      have nG1 := Lib.hid (oldG G1.out ha (Nat.le_refl _))
      obtain ⟨g2, hg2⟩ : ∃ g, g = w6.heap.size := ⟨_, rfl⟩
      rw [← hg2] at hg
      have HXG2 := Lib.hid hg2
      have G2 := Lib.hid hg
      have HV := Lib.hid hV6
      clear ha hg hV6 hg2
      clear HB R0 S0 S1 R1 R2 R3 G0 G1
      have HB := nHB
      have R0 := nR0
      have S0 := nS0
      have S1 := nS1
      have R1 := nR1
      have R2 := nR2
      have R3 := nR3
      have G0 := nG0
      have G1 := nG1
      clear nHB nR0 nS0 nS1 nR1 nR2 nR3 nG0 nG1
      obtain ⟨g0x, g0y⟩ := cG2 G0.out
      rw [HV.out] at g0x g0y
      go_wp2_with fail
      clear g0x g0y
      rw [← HV.out]
      (try rw [← HXG2.out])
      clear HV HXG2
      refine (CS3.out _ HB.out R0.out S1.out).mono ?_
      rintro e w7 ⟨⟨A4, c4, rfl, p5, p6, h4⟩, hb⟩
      have nHB := Lib.hid (belG HB.out hb HB.out.size)
      have nR0 := Lib.hid ((R0.out.below hb (Nat.le_refl _)).more hb.size)
      have nS0 := Lib.hid ((S0.out.below hb (Nat.le_refl _)).more hb.size)
      have nS1 := Lib.hid ((S1.out.below hb (Nat.le_refl _)).more hb.size)
      have nR1 := Lib.hid ((R1.out.below hb (Nat.le_refl _)).more hb.size)
      have nR2 := Lib.hid ((R2.out.below hb (Nat.le_refl _)).more hb.size)
      have nR3 := Lib.hid ((R3.out.below hb (Nat.le_refl _)).more hb.size)
      have nG0 := Lib.hid (oldG G0.out hb (Nat.le_refl _))
      have nG1 := Lib.hid (oldG G1.out hb (Nat.le_refl _))
      have nG2 := Lib.hid (oldG G2.out hb (Nat.le_refl _))
      clear hb
      clear HB R0 S0 S1 R1 R2 R3 G0 G1 G2
      have HB := nHB
      have R0 := nR0
      have S0 := nS0
      have S1 := nS1
      have R1 := nR1
      have R2 := nR2
      have R3 := nR3
      have G0 := nG0
      have G1 := nG1
      have G2 := nG2
      clear nHB nR0 nS0 nS1 nR1 nR2 nR3 nG0 nG1 nG2
      have R4 := Lib.hid h4
      clear h4
      obtain ⟨V7, hV7⟩ : ∃ V, V = w7.alloc (.cells #[.int .i64 t, .slice A4 nb c4] 24) := ⟨_, rfl⟩
      have ha := (Below.refl w7.heap.size w7).alloc (Nat.le_refl _) (.cells #[.int .i64 t, .slice A4 nb c4] 24)
      have hg := heap_alloc_new w7 (.cells #[.int .i64 t, .slice A4 nb c4] 24)
      have nHB := Lib.hid (HB.out.alloc HB.out.size (.cells #[.int .i64 t, .slice A4 nb c4] 24))
      rw [← hV7] at ha hg nHB
      have nR0 := Lib.hid ((R0.out.below ha (Nat.le_refl _)).more ha.size)
      have nS0 := Lib.hid ((S0.out.below ha (Nat.le_refl _)).more ha.size)
      have nS1 := Lib.hid ((S1.out.below ha (Nat.le_refl _)).more ha.size)
      have nR1 := Lib.hid ((R1.out.below ha (Nat.le_refl _)).more ha.size)
      have nR2 := Lib.hid ((R2.out.below ha (Nat.le_refl _)).more ha.size)
      have nR3 := Lib.hid ((R3.out.below ha (Nat.le_refl _)).more ha.size)
      have nR4 := Lib.hid ((R4.out.below ha (Nat.le_refl _)).more ha.size)
      have nG0 := Lib.hid (oldG G0.out ha (Nat.le_refl _))
      have nG1 := Lib.hid (oldG G1.out ha (Nat.le_refl _))
      have nG2 := Lib.hid (oldG G2.out ha (Nat.le_refl _))
      obtain ⟨g3, hg3⟩ : ∃ g, g = w7.heap.size := ⟨_, rfl⟩
      rw [← hg3] at hg
      have HXG3 := Lib.hid hg3
      have G3 := Lib.hid hg
      have HV := Lib.hid hV7
      clear ha hg hV7 hg3
      clear HB R0 S0 S1 R1 R2 R3 R4 G0 G1 G2
      have HB := nHB
      have R0 := nR0
      have S0 := nS0
      have S1 := nS1
      have R1 := nR1
      have R2 := nR2
      have R3 := nR3
      have R4 := nR4
      have G0 := nG0
      have G1 := nG1
      have G2 := nG2
      clear nHB nR0 nS0 nS1 nR1 nR2 nR3 nR4 nG0 nG1 nG2
      obtain ⟨g1x, g1y⟩ := cG2 G1.out
      rw [HV.out] at g1x g1y
      go_wp2_with fail
      clear g1x g1y
      rw [← HV.out]
      (try rw [← HXG3.out])
      clear HV HXG3
      refine (CD1.out A1 c1 _ HB.out p1 p2 R1.out).mono ?_
      rintro e w8 ⟨⟨A5, c5, rfl, p7, p8, h5⟩, hb⟩
      have nHB := Lib.hid (belG HB.out hb HB.out.size)
      have nR0 := Lib.hid ((R0.out.below hb (Nat.le_refl _)).more hb.size)
      have nS0 := Lib.hid ((S0.out.below hb (Nat.le_refl _)).more hb.size)
      have nS1 := Lib.hid ((S1.out.below hb (Nat.le_refl _)).more hb.size)
      have nR1 := Lib.hid ((R1.out.below hb (Nat.le_refl _)).more hb.size)
      have nR2 := Lib.hid ((R2.out.below hb (Nat.le_refl _)).more hb.size)
      have nR3 := Lib.hid ((R3.out.below hb (Nat.le_refl _)).more hb.size)
      have nR4 := Lib.hid ((R4.out.below hb (Nat.le_refl _)).more hb.size)
      have nG0 := Lib.hid (oldG G0.out hb (Nat.le_refl _))
      have nG1 := Lib.hid (oldG G1.out hb (Nat.le_refl _))
      have nG2 := Lib.hid (oldG G2.out hb (Nat.le_refl _))
      have nG3 := Lib.hid (oldG G3.out hb (Nat.le_refl _))
      clear hb
      clear HB R0 S0 S1 R1 R2 R3 R4 G0 G1 G2 G3
      have HB := nHB
      have R0 := nR0
      have S0 := nS0
      have S1 := nS1
      have R1 := nR1
      have R2 := nR2
      have R3 := nR3
      have R4 := nR4
      have G0 := nG0
      have G1 := nG1
      have G2 := nG2
      have G3 := nG3
      clear nHB nR0 nS0 nS1 nR1 nR2 nR3 nR4 nG0 nG1 nG2 nG3
      have R5 := Lib.hid h5
      clear h5
      obtain ⟨V8, hV8⟩ : ∃ V, V = w8.alloc (.cells #[.int .i64 t, .slice A5 nd c5] 24) := ⟨_, rfl⟩
      have ha := (Below.refl w8.heap.size w8).alloc (Nat.le_refl _) (.cells #[.int .i64 t, .slice A5 nd c5] 24)
      have hg := heap_alloc_new w8 (.cells #[.int .i64 t, .slice A5 nd c5] 24)
      have nHB := Lib.hid (HB.out.alloc HB.out.size (.cells #[.int .i64 t, .slice A5 nd c5] 24))
      rw [← hV8] at ha hg nHB
      have nR0 := Lib.hid ((R0.out.below ha (Nat.le_refl _)).more ha.size)
      have nS0 := Lib.hid ((S0.out.below ha (Nat.le_refl _)).more ha.size)
      have nS1 := Lib.hid ((S1.out.below ha (Nat.le_refl _)).more ha.size)
      have nR1 := Lib.hid ((R1.out.below ha (Nat.le_refl _)).more ha.size)
      have nR2 := Lib.hid ((R2.out.below ha (Nat.le_refl _)).more ha.size)
      have nR3 := Lib.hid ((R3.out.below ha (Nat.le_refl _)).more ha.size)
      have nR4 := Lib.hid ((R4.out.below ha (Nat.le_refl _)).more ha.size)
      have nR5 := Lib.hid ((R5.out.below ha (Nat.le_refl _)).more ha.size)
      have nG0 := Lib.hid (oldG G0.out ha (Nat.le_refl _))
      have nG1 := Lib.hid (oldG G1.out ha (Nat.le_refl _))
      have nG2 := Lib.hid (oldG G2.out ha (Nat.le_refl _))
      have nG3 := Lib.hid (oldG G3.out ha (Nat.le_refl _))
      obtain ⟨g4, hg4⟩ : ∃ g, g = w8.heap.size := ⟨_, rfl⟩
      rw [← hg4] at hg
      have HXG4 := Lib.hid hg4
      have G4 := Lib.hid hg
      have HV := Lib.hid hV8
      clear ha hg hV8 hg4
      clear HB R0 S0 S1 R1 R2 R3 R4 R5 G0 G1 G2 G3
      have HB := nHB
      have R0 := nR0
      have S0 := nS0
      have S1 := nS1
      have R1 := nR1
      have R2 := nR2
      have R3 := nR3
      have R4 := nR4
      have R5 := nR5
      have G0 := nG0
      have G1 := nG1
      have G2 := nG2
      have G3 := nG3
      clear nHB nR0 nS0 nS1 nR1 nR2 nR3 nR4 nR5 nG0 nG1 nG2 nG3
      obtain ⟨g4x, g4y⟩ := cG2 G4.out
      rw [HV.out] at g4x g4y
      rw [HXG4.out] at g4x g4y
      go_wp2_with fail
      clear g4x g4y
      rw [← HV.out]
      (try rw [← HXG4.out])
      clear HV HXG4
      refine (CG2.out A5 c5 _ HB.out p7 p8 R5.out).mono ?_
      rintro e w9 ⟨⟨A6, c6, rfl, -, -, -⟩, hb⟩
      have nHB := Lib.hid (belG HB.out hb HB.out.size)
      have nR0 := Lib.hid ((R0.out.below hb (Nat.le_refl _)).more hb.size)
      have nS0 := Lib.hid ((S0.out.below hb (Nat.le_refl _)).more hb.size)
      have nS1 := Lib.hid ((S1.out.below hb (Nat.le_refl _)).more hb.size)
      have nR1 := Lib.hid ((R1.out.below hb (Nat.le_refl _)).more hb.size)
      have nR2 := Lib.hid ((R2.out.below hb (Nat.le_refl _)).more hb.size)
      have nR3 := Lib.hid ((R3.out.below hb (Nat.le_refl _)).more hb.size)
      have nR4 := Lib.hid ((R4.out.below hb (Nat.le_refl _)).more hb.size)
      have nR5 := Lib.hid ((R5.out.below hb (Nat.le_refl _)).more hb.size)
      have nG0 := Lib.hid (oldG G0.out hb (Nat.le_refl _))
      have nG1 := Lib.hid (oldG G1.out hb (Nat.le_refl _))
      have nG2 := Lib.hid (oldG G2.out hb (Nat.le_refl _))
      have nG3 := Lib.hid (oldG G3.out hb (Nat.le_refl _))
      have nG4 := Lib.hid (oldG G4.out hb (Nat.le_refl _))
      clear hb
      clear HB R0 S0 S1 R1 R2 R3 R4 R5 G0 G1 G2 G3 G4
      have HB := nHB
      have R0 := nR0
      have S0 := nS0
      have S1 := nS1
      have R1 := nR1
      have R2 := nR2
      have R3 := nR3
      have R4 := nR4
      have R5 := nR5
      have G0 := nG0
      have G1 := nG1
      have G2 := nG2
      have G3 := nG3
      have G4 := nG4
      clear nHB nR0 nS0 nS1 nR1 nR2 nR3 nR4 nR5 nG0 nG1 nG2 nG3 nG4
      obtain ⟨g0x, g0y⟩ := cG2 G0.out
      go_wp2_with fail
      clear g0x g0y
      refine (CG3.out _ HB.out R0.out).mono ?_
      rintro e w10 ⟨⟨A7, c7, rfl, -, -, h7⟩, hb⟩
      have nHB := Lib.hid (belG HB.out hb HB.out.size)
      have nR0 := Lib.hid ((R0.out.below hb (Nat.le_refl _)).more hb.size)
      have nS0 := Lib.hid ((S0.out.below hb (Nat.le_refl _)).more hb.size)
      have nS1 := Lib.hid ((S1.out.below hb (Nat.le_refl _)).more hb.size)
      have nR1 := Lib.hid ((R1.out.below hb (Nat.le_refl _)).more hb.size)
      have nR2 := Lib.hid ((R2.out.below hb (Nat.le_refl _)).more hb.size)
      have nR3 := Lib.hid ((R3.out.below hb (Nat.le_refl _)).more hb.size)
      have nR4 := Lib.hid ((R4.out.below hb (Nat.le_refl _)).more hb.size)
      have nR5 := Lib.hid ((R5.out.below hb (Nat.le_refl _)).more hb.size)
      have nG0 := Lib.hid (oldG G0.out hb (Nat.le_refl _))
      have nG1 := Lib.hid (oldG G1.out hb (Nat.le_refl _))
      have nG2 := Lib.hid (oldG G2.out hb (Nat.le_refl _))
      have nG3 := Lib.hid (oldG G3.out hb (Nat.le_refl _))
      have nG4 := Lib.hid (oldG G4.out hb (Nat.le_refl _))
      clear hb
      clear HB R0 S0 S1 R1 R2 R3 R4 R5 G0 G1 G2 G3 G4
      have HB := nHB
      have R0 := nR0
      have S0 := nS0
      have S1 := nS1
      have R1 := nR1
      have R2 := nR2
      have R3 := nR3
      have R4 := nR4
      have R5 := nR5
      have G0 := nG0
      have G1 := nG1
      have G2 := nG2
      have G3 := nG3
      have G4 := nG4
      clear nHB nR0 nS0 nS1 nR1 nR2 nR3 nR4 nR5 nG0 nG1 nG2 nG3 nG4
      have R7 := Lib.hid h7
      clear h7
      obtain ⟨g1x, g1y⟩ := cG2 G1.out
      go_wp2_with fail
      clear g1x g1y
      refine (CG4.out A1 c1 _ HB.out p1 p2 R1.out).mono ?_
      rintro e w11 ⟨⟨A8, c8, rfl, -, -, h8⟩, hb⟩
      have nHB := Lib.hid (belG HB.out hb HB.out.size)
      have nR0 := Lib.hid ((R0.out.below hb (Nat.le_refl _)).more hb.size)
      have nS0 := Lib.hid ((S0.out.below hb (Nat.le_refl _)).more hb.size)
      have nS1 := Lib.hid ((S1.out.below hb (Nat.le_refl _)).more hb.size)
      have nR1 := Lib.hid ((R1.out.below hb (Nat.le_refl _)).more hb.size)
      have nR2 := Lib.hid ((R2.out.below hb (Nat.le_refl _)).more hb.size)
      have nR3 := Lib.hid ((R3.out.below hb (Nat.le_refl _)).more hb.size)
      have nR4 := Lib.hid ((R4.out.below hb (Nat.le_refl _)).more hb.size)
      have nR5 := Lib.hid ((R5.out.below hb (Nat.le_refl _)).more hb.size)
      have nR7 := Lib.hid ((R7.out.below hb (Nat.le_refl _)).more hb.size)
      have nG0 := Lib.hid (oldG G0.out hb (Nat.le_refl _))
      have nG1 := Lib.hid (oldG G1.out hb (Nat.le_refl _))
      have nG2 := Lib.hid (oldG G2.out hb (Nat.le_refl _))
      have nG3 := Lib.hid (oldG G3.out hb (Nat.le_refl _))
      have nG4 := Lib.hid (oldG G4.out hb (Nat.le_refl _))
      clear hb
      clear HB R0 S0 S1 R1 R2 R3 R4 R5 R7 G0 G1 G2 G3 G4
      have HB := nHB
      have R0 := nR0
      have S0 := nS0
      have S1 := nS1
      have R1 := nR1
      have R2 := nR2
      have R3 := nR3
      have R4 := nR4
      have R5 := nR5
      have R7 := nR7
      have G0 := nG0
      have G1 := nG1
      have G2 := nG2
      have G3 := nG3
      have G4 := nG4
      clear nHB nR0 nS0 nS1 nR1 nR2 nR3 nR4 nR5 nR7 nG0 nG1 nG2 nG3 nG4
      have R8 := Lib.hid h8
      clear h8
      obtain ⟨g4x, g4y⟩ := cG2 G4.out
      go_wp2_with fail
      clear g4x g4y
      refine (CG5.out A5 c5 _ HB.out p7 p8 R5.out).mono ?_
      rintro e w12 ⟨⟨A9, c9, rfl, -, -, h9⟩, hb⟩
      have nHB := Lib.hid (belG HB.out hb HB.out.size)
      have nR0 := Lib.hid ((R0.out.below hb (Nat.le_refl _)).more hb.size)
      have nS0 := Lib.hid ((S0.out.below hb (Nat.le_refl _)).more hb.size)
      have nS1 := Lib.hid ((S1.out.below hb (Nat.le_refl _)).more hb.size)
      have nR1 := Lib.hid ((R1.out.below hb (Nat.le_refl _)).more hb.size)
      have nR2 := Lib.hid ((R2.out.below hb (Nat.le_refl _)).more hb.size)
      have nR3 := Lib.hid ((R3.out.below hb (Nat.le_refl _)).more hb.size)
      have nR4 := Lib.hid ((R4.out.below hb (Nat.le_refl _)).more hb.size)
      have nR5 := Lib.hid ((R5.out.below hb (Nat.le_refl _)).more hb.size)
      have nR7 := Lib.hid ((R7.out.below hb (Nat.le_refl _)).more hb.size)
      have nR8 := Lib.hid ((R8.out.below hb (Nat.le_refl _)).more hb.size)
      have nG0 := Lib.hid (oldG G0.out hb (Nat.le_refl _))
      have nG1 := Lib.hid (oldG G1.out hb (Nat.le_refl _))
      have nG2 := Lib.hid (oldG G2.out hb (Nat.le_refl _))
      have nG3 := Lib.hid (oldG G3.out hb (Nat.le_refl _))
      have nG4 := Lib.hid (oldG G4.out hb (Nat.le_refl _))
      clear hb
      clear HB R0 S0 S1 R1 R2 R3 R4 R5 R7 R8 G0 G1 G2 G3 G4
      have HB := nHB
      have R0 := nR0
      have S0 := nS0
      have S1 := nS1
      have R1 := nR1
      have R2 := nR2
      have R3 := nR3
      have R4 := nR4
      have R5 := nR5
      have R7 := nR7
      have R8 := nR8
      have G0 := nG0
      have G1 := nG1
      have G2 := nG2
      have G3 := nG3
      have G4 := nG4
      clear nHB nR0 nS0 nS1 nR1 nR2 nR3 nR4 nR5 nR7 nR8 nG0 nG1 nG2 nG3 nG4
      have R9 := Lib.hid h9
      clear h9
      have BB0 := Lib.hid ((Below.refl w12.heap.size w12).drew)
      have F0 := Lib.hid (fun w (h : Below w12.heap.size w12 w) => belG HB.out h HB.out.size)
      have FR0 := Lib.hid (fun w (h : Below w12.heap.size w12 w) => (R0.out.below h (Nat.le_refl _)).more h.size)
      have FS0 := Lib.hid (fun w (h : Below w12.heap.size w12 w) => (S0.out.below h (Nat.le_refl _)).more h.size)
      have FS1 := Lib.hid (fun w (h : Below w12.heap.size w12 w) => (S1.out.below h (Nat.le_refl _)).more h.size)
      have FR1 := Lib.hid (fun w (h : Below w12.heap.size w12 w) => (R1.out.below h (Nat.le_refl _)).more h.size)
      have FR2 := Lib.hid (fun w (h : Below w12.heap.size w12 w) => (R2.out.below h (Nat.le_refl _)).more h.size)
      have FR3 := Lib.hid (fun w (h : Below w12.heap.size w12 w) => (R3.out.below h (Nat.le_refl _)).more h.size)
      have FR4 := Lib.hid (fun w (h : Below w12.heap.size w12 w) => (R4.out.below h (Nat.le_refl _)).more h.size)
      have FR5 := Lib.hid (fun w (h : Below w12.heap.size w12 w) => (R5.out.below h (Nat.le_refl _)).more h.size)
      have FR7 := Lib.hid (fun w (h : Below w12.heap.size w12 w) => (R7.out.below h (Nat.le_refl _)).more h.size)
      have FR8 := Lib.hid (fun w (h : Below w12.heap.size w12 w) => (R8.out.below h (Nat.le_refl _)).more h.size)
      have FR9 := Lib.hid (fun w (h : Below w12.heap.size w12 w) => (R9.out.below h (Nat.le_refl _)).more h.size)
      have KEEP := Lib.hid (fun w' (h : Below w12.heap.size w12 w') => (show Below w12.heap.size w12 w' ∧ w'.cell? ⟨W.heap.size + 1, 0, none⟩ = some (.int .i64 t) ∧ w'.cell? ⟨W.heap.size + 1, 1, none⟩ = some (.slice A n c) ∧ w'.cell? ⟨g1, 0, none⟩ = some (.int .i64 t) ∧ w'.cell? ⟨g1, 1, none⟩ = some (.slice A1 na c1) ∧ w'.cell? ⟨g4, 0, none⟩ = some (.int .i64 t) ∧ w'.cell? ⟨g4, 1, none⟩ = some (.slice A5 nd c5) from by
        obtain ⟨z0, u0⟩ := cG2 (oldG G0.out h (Nat.le_refl _))
        obtain ⟨z1, u1⟩ := cG2 (oldG G1.out h (Nat.le_refl _))
        obtain ⟨z2, u2⟩ := cG2 (oldG G4.out h (Nat.le_refl _))
        exact ⟨h, z0, u0, z1, u1, z2, u2⟩))
      go_wp2_with fail
      go_region_held3 (fun w' => Below w12.heap.size w12 w' ∧ w'.cell? ⟨W.heap.size + 1, 0, none⟩ = some (.int .i64 t) ∧ w'.cell? ⟨W.heap.size + 1, 1, none⟩ = some (.slice A n c) ∧ w'.cell? ⟨g1, 0, none⟩ = some (.int .i64 t) ∧ w'.cell? ⟨g1, 1, none⟩ = some (.slice A1 na c1) ∧ w'.cell? ⟨g4, 0, none⟩ = some (.int .i64 t) ∧ w'.cell? ⟨g4, 1, none⟩ = some (.slice A5 nd c5))
        (first | with_reducible exact KEEP.out _ BB0.out | with_reducible exact KEEP.out _ BB2.out | with_reducible exact KEEP.out _ BB3.out | with_reducible exact KEEP.out _ BB4.out | with_reducible exact KEEP.out _ BB5.out)
        (first
        | (go_at_call 17; (with_reducible refine (SX.out A2 B c2 cb _ (F0.out _ BB0.out) (FR2.out _ BB0.out) (FS0.out _ BB0.out)).mono ?_); rintro e wz0 ⟨rfl, rfl⟩)
        | (go_at_call 19; (with_reducible refine (CRa.out A1 c1 _ (F0.out _ BB0.out) p1 p2 (FR1.out _ BB0.out)).mono ?_); rintro e wz1 ⟨rfl, hb⟩; have BB2 := Lib.hid (belG BB0.out hb BB0.out.size); clear hb)
        | (go_at_call 19; (with_reducible refine (CRd.out A5 c5 _ (F0.out _ BB2.out) p7 p8 (FR5.out _ BB2.out)).mono ?_); rintro e wz2 ⟨rfl, hb⟩; have BB3 := Lib.hid (belG BB2.out hb BB2.out.size); clear hb)
        | (go_at_call 32; (with_reducible refine (CD2.out _ (F0.out _ BB3.out) (FR0.out _ BB3.out)).mono ?_); rintro e wz3 ⟨⟨A10, c10, rfl, p9, p10, h10⟩, hb⟩; have BB4 := Lib.hid (belG BB3.out hb BB3.out.size); have R10 := Lib.hid h10; clear h10; clear hb)
        | (go_at_call 21; (with_reducible refine (SD.out A5 A10 c5 c10 _ (F0.out _ BB4.out) p7 p8 (FR5.out _ BB4.out) R10.out).mono ?_); rintro e wz4 ⟨rfl, hb⟩; have BB5 := Lib.hid (belG BB4.out hb BB4.out.size); have nR10 := Lib.hid ((R10.out.below hb (Nat.le_refl _)).more hb.size); clear R10; have R10 := nR10; clear nR10; clear hb))
      all_goals
        have HBq := Lib.hid (F0.out _ BB5.out)
        have qG1 := Lib.hid (oldG G1.out BB5.out (Nat.le_refl _))
        have qG2 := Lib.hid (oldG G2.out BB5.out (Nat.le_refl _))
        have qG3 := Lib.hid (oldG G3.out BB5.out (Nat.le_refl _))
        have qR0 := Lib.hid (FR0.out _ BB5.out)
        have qS0 := Lib.hid (FS0.out _ BB5.out)
        have qS1 := Lib.hid (FS1.out _ BB5.out)
        have qR1 := Lib.hid (FR1.out _ BB5.out)
        have qR2 := Lib.hid (FR2.out _ BB5.out)
        have qR3 := Lib.hid (FR3.out _ BB5.out)
        have qR4 := Lib.hid (FR4.out _ BB5.out)
        have qR5 := Lib.hid (FR5.out _ BB5.out)
        have qR7 := Lib.hid (FR7.out _ BB5.out)
        have qR8 := Lib.hid (FR8.out _ BB5.out)
        have qR9 := Lib.hid (FR9.out _ BB5.out)
        clear HB KEEP F0 R0 S0 S1 R1 R2 R3 R4 R5 R7 R8 R9 FR0 FS0 FS1 FR1 FR2 FR3 FR4 FR5 FR7 FR8 FR9 G0 G1 G2 G3 G4
        have HB := HBq
        have R0 := qR0
        have S0 := qS0
        have S1 := qS1
        have R1 := qR1
        have R2 := qR2
        have R3 := qR3
        have R4 := qR4
        have R5 := qR5
        have R7 := qR7
        have R8 := qR8
        have R9 := qR9
        have G1 := qG1
        have G2 := qG2
        have G3 := qG3
        clear HBq qR0 qS0 qS1 qR1 qR2 qR3 qR4 qR5 qR7 qR8 qR9 qG1 qG2 qG3
        obtain ⟨g2x, g2y⟩ := cG2 G2.out
        obtain ⟨g3x, g3y⟩ := cG2 G3.out
        go_wp2_with fail
        clear g2x g2y g3x g3y
        refine (SM.out A3 A4 c3 c4 _ HB.out p3 p4 R3.out R4.out).mono ?_
        rintro e w33 ⟨rfl, hb⟩
        have nHB := Lib.hid (belG HB.out hb HB.out.size)
        have nR0 := Lib.hid ((R0.out.below hb (Nat.le_refl _)).more hb.size)
        have nS0 := Lib.hid ((S0.out.below hb (Nat.le_refl _)).more hb.size)
        have nS1 := Lib.hid ((S1.out.below hb (Nat.le_refl _)).more hb.size)
        have nR1 := Lib.hid ((R1.out.below hb (Nat.le_refl _)).more hb.size)
        have nR2 := Lib.hid ((R2.out.below hb (Nat.le_refl _)).more hb.size)
        have nR3 := Lib.hid ((R3.out.below hb (Nat.le_refl _)).more hb.size)
        have nR4 := Lib.hid ((R4.out.below hb (Nat.le_refl _)).more hb.size)
        have nR5 := Lib.hid ((R5.out.below hb (Nat.le_refl _)).more hb.size)
        have nR7 := Lib.hid ((R7.out.below hb (Nat.le_refl _)).more hb.size)
        have nR8 := Lib.hid ((R8.out.below hb (Nat.le_refl _)).more hb.size)
        have nR9 := Lib.hid ((R9.out.below hb (Nat.le_refl _)).more hb.size)
        have nG1 := Lib.hid (oldG G1.out hb (Nat.le_refl _))
        have nG2 := Lib.hid (oldG G2.out hb (Nat.le_refl _))
        have nG3 := Lib.hid (oldG G3.out hb (Nat.le_refl _))
        clear hb
        clear HB R0 S0 S1 R1 R2 R3 R4 R5 R7 R8 R9 G1 G2 G3
        have HB := nHB
        have R0 := nR0
        have S0 := nS0
        have S1 := nS1
        have R1 := nR1
        have R2 := nR2
        have R3 := nR3
        have R4 := nR4
        have R5 := nR5
        have R7 := nR7
        have R8 := nR8
        have R9 := nR9
        have G1 := nG1
        have G2 := nG2
        have G3 := nG3
        clear nHB nR0 nS0 nS1 nR1 nR2 nR3 nR4 nR5 nR7 nR8 nR9 nG1 nG2 nG3
        go_wp2_with fail
        go_ret
        exact ⟨by first | rfl | simp, HB.out⟩
    · have heq : o ≠ no := fun h => heq h.symm
      rw [show setM (setL l no x) no y = setL l no y by unfold setM; rw [if_pos hfy, set_set]] at CS2
      rw [show setM l no y = setL l no y from if_pos hfy] at CS3
      rw [show setE no y = 0 by unfold setE; rw [if_neg (fits_some hfy).1, if_pos hfy]] at CS2 CS3
      have SM := Lib.hid (fun (A1 A2 : Option Addr) (c1 c2 : Nat) w (hB : Below W.heap.size W w) (p1 : (setL l no y).length ≤ c1) (p2 : c1 ≤ 9223372036854775807) (h1 : RdF w w.heap.size A1 (setL l no y)) (h2 : RdF w w.heap.size A2 (setL l no y)) => refSameM_any t t A1 A2 (setL l no y) (setL l no y) c1 c2 w p1 p2 h1 h2)
      simp only [and_self, decide_true] at SM
      rw [(get_set_other l no o x heq).1, (get_set_other l no o x heq).2] at CG4
      rw [(get_drop_other l no o heq).1, (get_drop_other l no o heq).2] at CG5
      have SP := Lib.hid (fun (A1 A2 : Option Addr) (c1 c2 : Nat) w (hB : Below W.heap.size W w) (h1 : Rd w w.heap.size A1 (getL l o)) (h2 : Rd w w.heap.size A2 (getL l o)) => same_any A1 A2 (getL l o) (getL l o) c1 c2 _ _ w h1 h2)
      simp only [decide_true] at SP
      have hoo : ((o : Int) == (no : Int)) = false := by simpa using heq
      clear heq
      generalize getY l o = YO at *
      have hyy : (YO == YO) = true := by simp
      generalize getL l o = LO at *
      generalize LO.length = no1 at *
      clear hRa hRd hup hds hga hgd hF hok hl40 hl450 hR hfx hfy h450 h451 hr hc hz hcm hs hx hxm hw hy hym
      generalize setL l no y = LB at *
      generalize LB.length = nb at *
      generalize setL l no x = LA at *
      generalize LA.length = na at *
      generalize dropF l no = LD at *
      generalize LD.length = nd at *
      obtain ⟨n, hn⟩ : ∃ n, n = l.length := ⟨_, rfl⟩
      rw [← hn] at CF CR CS1 CS3 CG3 CD2
      rw [← hn]
      clear hn
      generalize x.length = mx at *
      generalize y.length = my at *
      obtain ⟨V0, hV, hb, hg, hg2⟩ := box2 W #[.int .i64 t, .slice A n c, .int .i64 no, .slice B mx cb, .slice C my cc, .int .i64 o] #[.int .i64 t, .slice A n c] 53 24
      have HB := Lib.hid hb
      have G0 := Lib.hid hg2
      have nR0 := Lib.hid ((R0.out.below hb (Nat.le_refl _)).more hb.size)
      have nS0 := Lib.hid ((S0.out.below hb (Nat.le_refl _)).more hb.size)
      have nS1 := Lib.hid ((S1.out.below hb (Nat.le_refl _)).more hb.size)
      have HV := Lib.hid hV
      have y0 : (W.alloc (.cells #[.int .i64 t, .slice A n c, .int .i64 no, .slice B mx cb, .slice C my cc, .int .i64 o] 53)).cell? ⟨W.heap.size, 0, none⟩ = some (.int .i64 t) := (cell_of_row _ _ _ _ _ _ (heap_alloc_new W _)).trans rfl
      have y1 : (W.alloc (.cells #[.int .i64 t, .slice A n c, .int .i64 no, .slice B mx cb, .slice C my cc, .int .i64 o] 53)).cell? ⟨W.heap.size, 1, none⟩ = some (.slice A n c) := (cell_of_row _ _ _ _ _ _ (heap_alloc_new W _)).trans rfl
      have y2 : V0.cell? ⟨W.heap.size, 2, none⟩ = some (.int .i64 no) := (cell_of_row _ _ _ _ _ _ hg).trans rfl
      have y3 : V0.cell? ⟨W.heap.size, 3, none⟩ = some (.slice B mx cb) := (cell_of_row _ _ _ _ _ _ hg).trans rfl
      have y4 : V0.cell? ⟨W.heap.size, 4, none⟩ = some (.slice C my cc) := (cell_of_row _ _ _ _ _ _ hg).trans rfl
      have y5 : V0.cell? ⟨W.heap.size, 5, none⟩ = some (.int .i64 o) := (cell_of_row _ _ _ _ _ _ hg).trans rfl
      rw [hV] at y2 y3 y4 y5
      clear hb hg hg2 hV
      clear R0 S0 S1
      have R0 := nR0
      have S0 := nS0
      have S1 := nS1
      clear nR0 nS0 nS1
      go_enter Tryd.func7, Tryd.ntmps7
      go_wp2_with fail
      clear y0 y1 y2 y3 y4 y5
      rw [← HV.out]
      clear HV
      refine (shown7_any _ (HT.out.below HB.out)).mono ?_
      rintro e w1 ⟨rfl, hb⟩
      have nHB := Lib.hid (belG HB.out hb HB.out.size)
      have nR0 := Lib.hid ((R0.out.below hb (Nat.le_refl _)).more hb.size)
      have nS0 := Lib.hid ((S0.out.below hb (Nat.le_refl _)).more hb.size)
      have nS1 := Lib.hid ((S1.out.below hb (Nat.le_refl _)).more hb.size)
      have nG0 := Lib.hid (oldG G0.out hb (Nat.le_refl _))
      clear hb
      clear HB R0 S0 S1 G0
      have HB := nHB
      have R0 := nR0
      have S0 := nS0
      have S1 := nS1
      have G0 := nG0
      clear nHB nR0 nS0 nS1 nG0
      obtain ⟨g0x, g0y⟩ := cG2 G0.out
      go_wp2_with fail
      clear g0x g0y
      refine (CF.out _ HB.out R0.out).mono ?_
      rintro e w2 ⟨rfl, hb⟩
      have nHB := Lib.hid (belG HB.out hb HB.out.size)
      have nR0 := Lib.hid ((R0.out.below hb (Nat.le_refl _)).more hb.size)
      have nS0 := Lib.hid ((S0.out.below hb (Nat.le_refl _)).more hb.size)
      have nS1 := Lib.hid ((S1.out.below hb (Nat.le_refl _)).more hb.size)
      have nG0 := Lib.hid (oldG G0.out hb (Nat.le_refl _))
      clear hb
      clear HB R0 S0 S1 G0
      have HB := nHB
      have R0 := nR0
      have S0 := nS0
      have S1 := nS1
      have G0 := nG0
      clear nHB nR0 nS0 nS1 nG0
      obtain ⟨g0x, g0y⟩ := cG2 G0.out
      go_wp2_with fail
      clear g0x g0y
      refine (CR.out _ HB.out R0.out).mono ?_
      rintro e w3 ⟨rfl, hb⟩
      have nHB := Lib.hid (belG HB.out hb HB.out.size)
      have nR0 := Lib.hid ((R0.out.below hb (Nat.le_refl _)).more hb.size)
      have nS0 := Lib.hid ((S0.out.below hb (Nat.le_refl _)).more hb.size)
      have nS1 := Lib.hid ((S1.out.below hb (Nat.le_refl _)).more hb.size)
      have nG0 := Lib.hid (oldG G0.out hb (Nat.le_refl _))
      clear hb
      clear HB R0 S0 S1 G0
      have HB := nHB
      have R0 := nR0
      have S0 := nS0
      have S1 := nS1
      have G0 := nG0
      clear nHB nR0 nS0 nS1 nG0
      obtain ⟨g0x, g0y⟩ := cG2 G0.out
      go_wp2_with fail
      clear g0x g0y
      refine (CS1.out _ HB.out R0.out S0.out).mono ?_
      rintro e w4 ⟨⟨A1, c1, rfl, p1, p2, h1⟩, hb⟩
      have nHB := Lib.hid (belG HB.out hb HB.out.size)
      have nR0 := Lib.hid ((R0.out.below hb (Nat.le_refl _)).more hb.size)
      have nS0 := Lib.hid ((S0.out.below hb (Nat.le_refl _)).more hb.size)
      have nS1 := Lib.hid ((S1.out.below hb (Nat.le_refl _)).more hb.size)
      have nG0 := Lib.hid (oldG G0.out hb (Nat.le_refl _))
      clear hb
      clear HB R0 S0 S1 G0
      have HB := nHB
      have R0 := nR0
      have S0 := nS0
      have S1 := nS1
      have G0 := nG0
      clear nHB nR0 nS0 nS1 nG0
      have R1 := Lib.hid h1
      clear h1
      obtain ⟨V4, hV4⟩ : ∃ V, V = w4.alloc (.cells #[.int .i64 t, .slice A1 na c1] 24) := ⟨_, rfl⟩
      have ha := (Below.refl w4.heap.size w4).alloc (Nat.le_refl _) (.cells #[.int .i64 t, .slice A1 na c1] 24)
      have hg := heap_alloc_new w4 (.cells #[.int .i64 t, .slice A1 na c1] 24)
      have nHB := Lib.hid (HB.out.alloc HB.out.size (.cells #[.int .i64 t, .slice A1 na c1] 24))
      rw [← hV4] at ha hg nHB
      have nR0 := Lib.hid ((R0.out.below ha (Nat.le_refl _)).more ha.size)
      have nS0 := Lib.hid ((S0.out.below ha (Nat.le_refl _)).more ha.size)
      have nS1 := Lib.hid ((S1.out.below ha (Nat.le_refl _)).more ha.size)
      have nR1 := Lib.hid ((R1.out.below ha (Nat.le_refl _)).more ha.size)
      have nG0 := Lib.hid (oldG G0.out ha (Nat.le_refl _))
      obtain ⟨g1, hg1⟩ : ∃ g, g = w4.heap.size := ⟨_, rfl⟩
      rw [← hg1] at hg
      have HXG1 := Lib.hid hg1
      have G1 := Lib.hid hg
      have HV := Lib.hid hV4
      clear ha hg hV4 hg1
      clear HB R0 S0 S1 R1 G0
      have HB := nHB
      have R0 := nR0
      have S0 := nS0
      have S1 := nS1
      have R1 := nR1
      have G0 := nG0
      clear nHB nR0 nS0 nS1 nR1 nG0
      obtain ⟨g1x, g1y⟩ := cG2 G1.out
      rw [HV.out] at g1x g1y
      rw [HXG1.out] at g1x g1y
      go_wp2_with fail
      clear g1x g1y
      rw [← HV.out]
      (try rw [← HXG1.out])
      clear HV HXG1
      refine (CG1.out A1 c1 _ HB.out p1 p2 R1.out).mono ?_
      rintro e w5 ⟨⟨A2, c2, rfl, -, -, h2⟩, hb⟩
      have nHB := Lib.hid (belG HB.out hb HB.out.size)
      have nR0 := Lib.hid ((R0.out.below hb (Nat.le_refl _)).more hb.size)
      have nS0 := Lib.hid ((S0.out.below hb (Nat.le_refl _)).more hb.size)
      have nS1 := Lib.hid ((S1.out.below hb (Nat.le_refl _)).more hb.size)
      have nR1 := Lib.hid ((R1.out.below hb (Nat.le_refl _)).more hb.size)
      have nG0 := Lib.hid (oldG G0.out hb (Nat.le_refl _))
      have nG1 := Lib.hid (oldG G1.out hb (Nat.le_refl _))
      clear hb
      clear HB R0 S0 S1 R1 G0 G1
      have HB := nHB
      have R0 := nR0
      have S0 := nS0
      have S1 := nS1
      have R1 := nR1
      have G0 := nG0
      have G1 := nG1
      clear nHB nR0 nS0 nS1 nR1 nG0 nG1
      have R2 := Lib.hid h2
      clear h2
      obtain ⟨g1x, g1y⟩ := cG2 G1.out
      go_wp2_with fail
      clear g1x g1y
      refine (CS2.out A1 c1 _ HB.out p1 p2 R1.out S1.out).mono ?_
      rintro e w6 ⟨⟨A3, c3, rfl, p3, p4, h3⟩, hb⟩
      have nHB := Lib.hid (belG HB.out hb HB.out.size)
      have nR0 := Lib.hid ((R0.out.below hb (Nat.le_refl _)).more hb.size)
      have nS0 := Lib.hid ((S0.out.below hb (Nat.le_refl _)).more hb.size)
      have nS1 := Lib.hid ((S1.out.below hb (Nat.le_refl _)).more hb.size)
      have nR1 := Lib.hid ((R1.out.below hb (Nat.le_refl _)).more hb.size)
      have nR2 := Lib.hid ((R2.out.below hb (Nat.le_refl _)).more hb.size)
      have nG0 := Lib.hid (oldG G0.out hb (Nat.le_refl _))
      have nG1 := Lib.hid (oldG G1.out hb (Nat.le_refl _))
      clear hb
      clear HB R0 S0 S1 R1 R2 G0 G1
      have HB := nHB
      have R0 := nR0
      have S0 := nS0
      have S1 := nS1
      have R1 := nR1
      have R2 := nR2
      have G0 := nG0
      have G1 := nG1
      clear nHB nR0 nS0 nS1 nR1 nR2 nG0 nG1
      have R3 := Lib.hid h3
      clear h3
      obtain ⟨V6, hV6⟩ : ∃ V, V = w6.alloc (.cells #[.int .i64 t, .slice A3 nb c3] 24) := ⟨_, rfl⟩
      have ha := (Below.refl w6.heap.size w6).alloc (Nat.le_refl _) (.cells #[.int .i64 t, .slice A3 nb c3] 24)
      have hg := heap_alloc_new w6 (.cells #[.int .i64 t, .slice A3 nb c3] 24)
      have nHB := Lib.hid (HB.out.alloc HB.out.size (.cells #[.int .i64 t, .slice A3 nb c3] 24))
      rw [← hV6] at ha hg nHB
      have nR0 := Lib.hid ((R0.out.below ha (Nat.le_refl _)).more ha.size)
      have nS0 := Lib.hid ((S0.out.below ha (Nat.le_refl _)).more ha.size)
      have nS1 := Lib.hid ((S1.out.below ha (Nat.le_refl _)).more ha.size)
      have nR1 := Lib.hid ((R1.out.below ha (Nat.le_refl _)).more ha.size)
      have nR2 := Lib.hid ((R2.out.below ha (Nat.le_refl _)).more ha.size)
      have nR3 := Lib.hid ((R3.out.below ha (Nat.le_refl _)).more ha.size)
      have nG0 := Lib.hid (oldG G0.out ha (Nat.le_refl _))
      have nG1 := Lib.hid (oldG G1.out ha (Nat.le_refl _))
      obtain ⟨g2, hg2⟩ : ∃ g, g = w6.heap.size := ⟨_, rfl⟩
      rw [← hg2] at hg
      have HXG2 := Lib.hid hg2
      have G2 := Lib.hid hg
      have HV := Lib.hid hV6
      clear ha hg hV6 hg2
      clear HB R0 S0 S1 R1 R2 R3 G0 G1
      have HB := nHB
      have R0 := nR0
      have S0 := nS0
      have S1 := nS1
      have R1 := nR1
      have R2 := nR2
      have R3 := nR3
      have G0 := nG0
      have G1 := nG1
      clear nHB nR0 nS0 nS1 nR1 nR2 nR3 nG0 nG1
      obtain ⟨g0x, g0y⟩ := cG2 G0.out
      rw [HV.out] at g0x g0y
      go_wp2_with fail
      clear g0x g0y
      rw [← HV.out]
      (try rw [← HXG2.out])
      clear HV HXG2
      refine (CS3.out _ HB.out R0.out S1.out).mono ?_
      rintro e w7 ⟨⟨A4, c4, rfl, p5, p6, h4⟩, hb⟩
      have nHB := Lib.hid (belG HB.out hb HB.out.size)
      have nR0 := Lib.hid ((R0.out.below hb (Nat.le_refl _)).more hb.size)
      have nS0 := Lib.hid ((S0.out.below hb (Nat.le_refl _)).more hb.size)
      have nS1 := Lib.hid ((S1.out.below hb (Nat.le_refl _)).more hb.size)
      have nR1 := Lib.hid ((R1.out.below hb (Nat.le_refl _)).more hb.size)
      have nR2 := Lib.hid ((R2.out.below hb (Nat.le_refl _)).more hb.size)
      have nR3 := Lib.hid ((R3.out.below hb (Nat.le_refl _)).more hb.size)
      have nG0 := Lib.hid (oldG G0.out hb (Nat.le_refl _))
      have nG1 := Lib.hid (oldG G1.out hb (Nat.le_refl _))
      have nG2 := Lib.hid (oldG G2.out hb (Nat.le_refl _))
      clear hb
      clear HB R0 S0 S1 R1 R2 R3 G0 G1 G2
      have HB := nHB
      have R0 := nR0
      have S0 := nS0
      have S1 := nS1
      have R1 := nR1
      have R2 := nR2
      have R3 := nR3
      have G0 := nG0
      have G1 := nG1
      have G2 := nG2
      clear nHB nR0 nS0 nS1 nR1 nR2 nR3 nG0 nG1 nG2
      have R4 := Lib.hid h4
      clear h4
      obtain ⟨V7, hV7⟩ : ∃ V, V = w7.alloc (.cells #[.int .i64 t, .slice A4 nb c4] 24) := ⟨_, rfl⟩
      have ha := (Below.refl w7.heap.size w7).alloc (Nat.le_refl _) (.cells #[.int .i64 t, .slice A4 nb c4] 24)
      have hg := heap_alloc_new w7 (.cells #[.int .i64 t, .slice A4 nb c4] 24)
      have nHB := Lib.hid (HB.out.alloc HB.out.size (.cells #[.int .i64 t, .slice A4 nb c4] 24))
      rw [← hV7] at ha hg nHB
      have nR0 := Lib.hid ((R0.out.below ha (Nat.le_refl _)).more ha.size)
      have nS0 := Lib.hid ((S0.out.below ha (Nat.le_refl _)).more ha.size)
      have nS1 := Lib.hid ((S1.out.below ha (Nat.le_refl _)).more ha.size)
      have nR1 := Lib.hid ((R1.out.below ha (Nat.le_refl _)).more ha.size)
      have nR2 := Lib.hid ((R2.out.below ha (Nat.le_refl _)).more ha.size)
      have nR3 := Lib.hid ((R3.out.below ha (Nat.le_refl _)).more ha.size)
      have nR4 := Lib.hid ((R4.out.below ha (Nat.le_refl _)).more ha.size)
      have nG0 := Lib.hid (oldG G0.out ha (Nat.le_refl _))
      have nG1 := Lib.hid (oldG G1.out ha (Nat.le_refl _))
      have nG2 := Lib.hid (oldG G2.out ha (Nat.le_refl _))
      obtain ⟨g3, hg3⟩ : ∃ g, g = w7.heap.size := ⟨_, rfl⟩
      rw [← hg3] at hg
      have HXG3 := Lib.hid hg3
      have G3 := Lib.hid hg
      have HV := Lib.hid hV7
      clear ha hg hV7 hg3
      clear HB R0 S0 S1 R1 R2 R3 R4 G0 G1 G2
      have HB := nHB
      have R0 := nR0
      have S0 := nS0
      have S1 := nS1
      have R1 := nR1
      have R2 := nR2
      have R3 := nR3
      have R4 := nR4
      have G0 := nG0
      have G1 := nG1
      have G2 := nG2
      clear nHB nR0 nS0 nS1 nR1 nR2 nR3 nR4 nG0 nG1 nG2
      obtain ⟨g1x, g1y⟩ := cG2 G1.out
      rw [HV.out] at g1x g1y
      go_wp2_with fail
      clear g1x g1y
      rw [← HV.out]
      (try rw [← HXG3.out])
      clear HV HXG3
      refine (CD1.out A1 c1 _ HB.out p1 p2 R1.out).mono ?_
      rintro e w8 ⟨⟨A5, c5, rfl, p7, p8, h5⟩, hb⟩
      have nHB := Lib.hid (belG HB.out hb HB.out.size)
      have nR0 := Lib.hid ((R0.out.below hb (Nat.le_refl _)).more hb.size)
      have nS0 := Lib.hid ((S0.out.below hb (Nat.le_refl _)).more hb.size)
      have nS1 := Lib.hid ((S1.out.below hb (Nat.le_refl _)).more hb.size)
      have nR1 := Lib.hid ((R1.out.below hb (Nat.le_refl _)).more hb.size)
      have nR2 := Lib.hid ((R2.out.below hb (Nat.le_refl _)).more hb.size)
      have nR3 := Lib.hid ((R3.out.below hb (Nat.le_refl _)).more hb.size)
      have nR4 := Lib.hid ((R4.out.below hb (Nat.le_refl _)).more hb.size)
      have nG0 := Lib.hid (oldG G0.out hb (Nat.le_refl _))
      have nG1 := Lib.hid (oldG G1.out hb (Nat.le_refl _))
      have nG2 := Lib.hid (oldG G2.out hb (Nat.le_refl _))
      have nG3 := Lib.hid (oldG G3.out hb (Nat.le_refl _))
      clear hb
      clear HB R0 S0 S1 R1 R2 R3 R4 G0 G1 G2 G3
      have HB := nHB
      have R0 := nR0
      have S0 := nS0
      have S1 := nS1
      have R1 := nR1
      have R2 := nR2
      have R3 := nR3
      have R4 := nR4
      have G0 := nG0
      have G1 := nG1
      have G2 := nG2
      have G3 := nG3
      clear nHB nR0 nS0 nS1 nR1 nR2 nR3 nR4 nG0 nG1 nG2 nG3
      have R5 := Lib.hid h5
      clear h5
      obtain ⟨V8, hV8⟩ : ∃ V, V = w8.alloc (.cells #[.int .i64 t, .slice A5 nd c5] 24) := ⟨_, rfl⟩
      have ha := (Below.refl w8.heap.size w8).alloc (Nat.le_refl _) (.cells #[.int .i64 t, .slice A5 nd c5] 24)
      have hg := heap_alloc_new w8 (.cells #[.int .i64 t, .slice A5 nd c5] 24)
      have nHB := Lib.hid (HB.out.alloc HB.out.size (.cells #[.int .i64 t, .slice A5 nd c5] 24))
      rw [← hV8] at ha hg nHB
      have nR0 := Lib.hid ((R0.out.below ha (Nat.le_refl _)).more ha.size)
      have nS0 := Lib.hid ((S0.out.below ha (Nat.le_refl _)).more ha.size)
      have nS1 := Lib.hid ((S1.out.below ha (Nat.le_refl _)).more ha.size)
      have nR1 := Lib.hid ((R1.out.below ha (Nat.le_refl _)).more ha.size)
      have nR2 := Lib.hid ((R2.out.below ha (Nat.le_refl _)).more ha.size)
      have nR3 := Lib.hid ((R3.out.below ha (Nat.le_refl _)).more ha.size)
      have nR4 := Lib.hid ((R4.out.below ha (Nat.le_refl _)).more ha.size)
      have nR5 := Lib.hid ((R5.out.below ha (Nat.le_refl _)).more ha.size)
      have nG0 := Lib.hid (oldG G0.out ha (Nat.le_refl _))
      have nG1 := Lib.hid (oldG G1.out ha (Nat.le_refl _))
      have nG2 := Lib.hid (oldG G2.out ha (Nat.le_refl _))
      have nG3 := Lib.hid (oldG G3.out ha (Nat.le_refl _))
      obtain ⟨g4, hg4⟩ : ∃ g, g = w8.heap.size := ⟨_, rfl⟩
      rw [← hg4] at hg
      have HXG4 := Lib.hid hg4
      have G4 := Lib.hid hg
      have HV := Lib.hid hV8
      clear ha hg hV8 hg4
      clear HB R0 S0 S1 R1 R2 R3 R4 R5 G0 G1 G2 G3
      have HB := nHB
      have R0 := nR0
      have S0 := nS0
      have S1 := nS1
      have R1 := nR1
      have R2 := nR2
      have R3 := nR3
      have R4 := nR4
      have R5 := nR5
      have G0 := nG0
      have G1 := nG1
      have G2 := nG2
      have G3 := nG3
      clear nHB nR0 nS0 nS1 nR1 nR2 nR3 nR4 nR5 nG0 nG1 nG2 nG3
      obtain ⟨g4x, g4y⟩ := cG2 G4.out
      rw [HV.out] at g4x g4y
      rw [HXG4.out] at g4x g4y
      go_wp2_with fail
      clear g4x g4y
      rw [← HV.out]
      (try rw [← HXG4.out])
      clear HV HXG4
      refine (CG2.out A5 c5 _ HB.out p7 p8 R5.out).mono ?_
      rintro e w9 ⟨⟨A6, c6, rfl, -, -, -⟩, hb⟩
      have nHB := Lib.hid (belG HB.out hb HB.out.size)
      have nR0 := Lib.hid ((R0.out.below hb (Nat.le_refl _)).more hb.size)
      have nS0 := Lib.hid ((S0.out.below hb (Nat.le_refl _)).more hb.size)
      have nS1 := Lib.hid ((S1.out.below hb (Nat.le_refl _)).more hb.size)
      have nR1 := Lib.hid ((R1.out.below hb (Nat.le_refl _)).more hb.size)
      have nR2 := Lib.hid ((R2.out.below hb (Nat.le_refl _)).more hb.size)
      have nR3 := Lib.hid ((R3.out.below hb (Nat.le_refl _)).more hb.size)
      have nR4 := Lib.hid ((R4.out.below hb (Nat.le_refl _)).more hb.size)
      have nR5 := Lib.hid ((R5.out.below hb (Nat.le_refl _)).more hb.size)
      have nG0 := Lib.hid (oldG G0.out hb (Nat.le_refl _))
      have nG1 := Lib.hid (oldG G1.out hb (Nat.le_refl _))
      have nG2 := Lib.hid (oldG G2.out hb (Nat.le_refl _))
      have nG3 := Lib.hid (oldG G3.out hb (Nat.le_refl _))
      have nG4 := Lib.hid (oldG G4.out hb (Nat.le_refl _))
      clear hb
      clear HB R0 S0 S1 R1 R2 R3 R4 R5 G0 G1 G2 G3 G4
      have HB := nHB
      have R0 := nR0
      have S0 := nS0
      have S1 := nS1
      have R1 := nR1
      have R2 := nR2
      have R3 := nR3
      have R4 := nR4
      have R5 := nR5
      have G0 := nG0
      have G1 := nG1
      have G2 := nG2
      have G3 := nG3
      have G4 := nG4
      clear nHB nR0 nS0 nS1 nR1 nR2 nR3 nR4 nR5 nG0 nG1 nG2 nG3 nG4
      obtain ⟨g0x, g0y⟩ := cG2 G0.out
      go_wp2_with fail
      clear g0x g0y
      refine (CG3.out _ HB.out R0.out).mono ?_
      rintro e w10 ⟨⟨A7, c7, rfl, -, -, h7⟩, hb⟩
      have nHB := Lib.hid (belG HB.out hb HB.out.size)
      have nR0 := Lib.hid ((R0.out.below hb (Nat.le_refl _)).more hb.size)
      have nS0 := Lib.hid ((S0.out.below hb (Nat.le_refl _)).more hb.size)
      have nS1 := Lib.hid ((S1.out.below hb (Nat.le_refl _)).more hb.size)
      have nR1 := Lib.hid ((R1.out.below hb (Nat.le_refl _)).more hb.size)
      have nR2 := Lib.hid ((R2.out.below hb (Nat.le_refl _)).more hb.size)
      have nR3 := Lib.hid ((R3.out.below hb (Nat.le_refl _)).more hb.size)
      have nR4 := Lib.hid ((R4.out.below hb (Nat.le_refl _)).more hb.size)
      have nR5 := Lib.hid ((R5.out.below hb (Nat.le_refl _)).more hb.size)
      have nG0 := Lib.hid (oldG G0.out hb (Nat.le_refl _))
      have nG1 := Lib.hid (oldG G1.out hb (Nat.le_refl _))
      have nG2 := Lib.hid (oldG G2.out hb (Nat.le_refl _))
      have nG3 := Lib.hid (oldG G3.out hb (Nat.le_refl _))
      have nG4 := Lib.hid (oldG G4.out hb (Nat.le_refl _))
      clear hb
      clear HB R0 S0 S1 R1 R2 R3 R4 R5 G0 G1 G2 G3 G4
      have HB := nHB
      have R0 := nR0
      have S0 := nS0
      have S1 := nS1
      have R1 := nR1
      have R2 := nR2
      have R3 := nR3
      have R4 := nR4
      have R5 := nR5
      have G0 := nG0
      have G1 := nG1
      have G2 := nG2
      have G3 := nG3
      have G4 := nG4
      clear nHB nR0 nS0 nS1 nR1 nR2 nR3 nR4 nR5 nG0 nG1 nG2 nG3 nG4
      have R7 := Lib.hid h7
      clear h7
      obtain ⟨g1x, g1y⟩ := cG2 G1.out
      go_wp2_with fail
      clear g1x g1y
      refine (CG4.out A1 c1 _ HB.out p1 p2 R1.out).mono ?_
      rintro e w11 ⟨⟨A8, c8, rfl, -, -, h8⟩, hb⟩
      have nHB := Lib.hid (belG HB.out hb HB.out.size)
      have nR0 := Lib.hid ((R0.out.below hb (Nat.le_refl _)).more hb.size)
      have nS0 := Lib.hid ((S0.out.below hb (Nat.le_refl _)).more hb.size)
      have nS1 := Lib.hid ((S1.out.below hb (Nat.le_refl _)).more hb.size)
      have nR1 := Lib.hid ((R1.out.below hb (Nat.le_refl _)).more hb.size)
      have nR2 := Lib.hid ((R2.out.below hb (Nat.le_refl _)).more hb.size)
      have nR3 := Lib.hid ((R3.out.below hb (Nat.le_refl _)).more hb.size)
      have nR4 := Lib.hid ((R4.out.below hb (Nat.le_refl _)).more hb.size)
      have nR5 := Lib.hid ((R5.out.below hb (Nat.le_refl _)).more hb.size)
      have nR7 := Lib.hid ((R7.out.below hb (Nat.le_refl _)).more hb.size)
      have nG0 := Lib.hid (oldG G0.out hb (Nat.le_refl _))
      have nG1 := Lib.hid (oldG G1.out hb (Nat.le_refl _))
      have nG2 := Lib.hid (oldG G2.out hb (Nat.le_refl _))
      have nG3 := Lib.hid (oldG G3.out hb (Nat.le_refl _))
      have nG4 := Lib.hid (oldG G4.out hb (Nat.le_refl _))
      clear hb
      clear HB R0 S0 S1 R1 R2 R3 R4 R5 R7 G0 G1 G2 G3 G4
      have HB := nHB
      have R0 := nR0
      have S0 := nS0
      have S1 := nS1
      have R1 := nR1
      have R2 := nR2
      have R3 := nR3
      have R4 := nR4
      have R5 := nR5
      have R7 := nR7
      have G0 := nG0
      have G1 := nG1
      have G2 := nG2
      have G3 := nG3
      have G4 := nG4
      clear nHB nR0 nS0 nS1 nR1 nR2 nR3 nR4 nR5 nR7 nG0 nG1 nG2 nG3 nG4
      have R8 := Lib.hid h8
      clear h8
      obtain ⟨g4x, g4y⟩ := cG2 G4.out
      go_wp2_with fail
      clear g4x g4y
      refine (CG5.out A5 c5 _ HB.out p7 p8 R5.out).mono ?_
      rintro e w12 ⟨⟨A9, c9, rfl, -, -, h9⟩, hb⟩
      have nHB := Lib.hid (belG HB.out hb HB.out.size)
      have nR0 := Lib.hid ((R0.out.below hb (Nat.le_refl _)).more hb.size)
      have nS0 := Lib.hid ((S0.out.below hb (Nat.le_refl _)).more hb.size)
      have nS1 := Lib.hid ((S1.out.below hb (Nat.le_refl _)).more hb.size)
      have nR1 := Lib.hid ((R1.out.below hb (Nat.le_refl _)).more hb.size)
      have nR2 := Lib.hid ((R2.out.below hb (Nat.le_refl _)).more hb.size)
      have nR3 := Lib.hid ((R3.out.below hb (Nat.le_refl _)).more hb.size)
      have nR4 := Lib.hid ((R4.out.below hb (Nat.le_refl _)).more hb.size)
      have nR5 := Lib.hid ((R5.out.below hb (Nat.le_refl _)).more hb.size)
      have nR7 := Lib.hid ((R7.out.below hb (Nat.le_refl _)).more hb.size)
      have nR8 := Lib.hid ((R8.out.below hb (Nat.le_refl _)).more hb.size)
      have nG0 := Lib.hid (oldG G0.out hb (Nat.le_refl _))
      have nG1 := Lib.hid (oldG G1.out hb (Nat.le_refl _))
      have nG2 := Lib.hid (oldG G2.out hb (Nat.le_refl _))
      have nG3 := Lib.hid (oldG G3.out hb (Nat.le_refl _))
      have nG4 := Lib.hid (oldG G4.out hb (Nat.le_refl _))
      clear hb
      clear HB R0 S0 S1 R1 R2 R3 R4 R5 R7 R8 G0 G1 G2 G3 G4
      have HB := nHB
      have R0 := nR0
      have S0 := nS0
      have S1 := nS1
      have R1 := nR1
      have R2 := nR2
      have R3 := nR3
      have R4 := nR4
      have R5 := nR5
      have R7 := nR7
      have R8 := nR8
      have G0 := nG0
      have G1 := nG1
      have G2 := nG2
      have G3 := nG3
      have G4 := nG4
      clear nHB nR0 nS0 nS1 nR1 nR2 nR3 nR4 nR5 nR7 nR8 nG0 nG1 nG2 nG3 nG4
      have R9 := Lib.hid h9
      clear h9
      have BB0 := Lib.hid ((Below.refl w12.heap.size w12).drew)
      have F0 := Lib.hid (fun w (h : Below w12.heap.size w12 w) => belG HB.out h HB.out.size)
      have FR0 := Lib.hid (fun w (h : Below w12.heap.size w12 w) => (R0.out.below h (Nat.le_refl _)).more h.size)
      have FS0 := Lib.hid (fun w (h : Below w12.heap.size w12 w) => (S0.out.below h (Nat.le_refl _)).more h.size)
      have FS1 := Lib.hid (fun w (h : Below w12.heap.size w12 w) => (S1.out.below h (Nat.le_refl _)).more h.size)
      have FR1 := Lib.hid (fun w (h : Below w12.heap.size w12 w) => (R1.out.below h (Nat.le_refl _)).more h.size)
      have FR2 := Lib.hid (fun w (h : Below w12.heap.size w12 w) => (R2.out.below h (Nat.le_refl _)).more h.size)
      have FR3 := Lib.hid (fun w (h : Below w12.heap.size w12 w) => (R3.out.below h (Nat.le_refl _)).more h.size)
      have FR4 := Lib.hid (fun w (h : Below w12.heap.size w12 w) => (R4.out.below h (Nat.le_refl _)).more h.size)
      have FR5 := Lib.hid (fun w (h : Below w12.heap.size w12 w) => (R5.out.below h (Nat.le_refl _)).more h.size)
      have FR7 := Lib.hid (fun w (h : Below w12.heap.size w12 w) => (R7.out.below h (Nat.le_refl _)).more h.size)
      have FR8 := Lib.hid (fun w (h : Below w12.heap.size w12 w) => (R8.out.below h (Nat.le_refl _)).more h.size)
      have FR9 := Lib.hid (fun w (h : Below w12.heap.size w12 w) => (R9.out.below h (Nat.le_refl _)).more h.size)
      have KEEP := Lib.hid (fun w' (h : Below w12.heap.size w12 w') => (show Below w12.heap.size w12 w' ∧ w'.cell? ⟨W.heap.size + 1, 0, none⟩ = some (.int .i64 t) ∧ w'.cell? ⟨W.heap.size + 1, 1, none⟩ = some (.slice A n c) ∧ w'.cell? ⟨g1, 0, none⟩ = some (.int .i64 t) ∧ w'.cell? ⟨g1, 1, none⟩ = some (.slice A1 na c1) ∧ w'.cell? ⟨g4, 0, none⟩ = some (.int .i64 t) ∧ w'.cell? ⟨g4, 1, none⟩ = some (.slice A5 nd c5) from by
        obtain ⟨z0, u0⟩ := cG2 (oldG G0.out h (Nat.le_refl _))
        obtain ⟨z1, u1⟩ := cG2 (oldG G1.out h (Nat.le_refl _))
        obtain ⟨z2, u2⟩ := cG2 (oldG G4.out h (Nat.le_refl _))
        exact ⟨h, z0, u0, z1, u1, z2, u2⟩))
      go_wp2_with fail
      go_region_held3 (fun w' => Below w12.heap.size w12 w' ∧ w'.cell? ⟨W.heap.size + 1, 0, none⟩ = some (.int .i64 t) ∧ w'.cell? ⟨W.heap.size + 1, 1, none⟩ = some (.slice A n c) ∧ w'.cell? ⟨g1, 0, none⟩ = some (.int .i64 t) ∧ w'.cell? ⟨g1, 1, none⟩ = some (.slice A1 na c1) ∧ w'.cell? ⟨g4, 0, none⟩ = some (.int .i64 t) ∧ w'.cell? ⟨g4, 1, none⟩ = some (.slice A5 nd c5))
        (first | with_reducible exact KEEP.out _ BB0.out | with_reducible exact KEEP.out _ BB2.out | with_reducible exact KEEP.out _ BB3.out | with_reducible exact KEEP.out _ BB4.out | with_reducible exact KEEP.out _ BB5.out)
        (first
        | (go_at_call 17; (with_reducible refine (SX.out A2 B c2 cb _ (F0.out _ BB0.out) (FR2.out _ BB0.out) (FS0.out _ BB0.out)).mono ?_); rintro e wz0 ⟨rfl, rfl⟩)
        | (go_at_call 19; (with_reducible refine (CRa.out A1 c1 _ (F0.out _ BB0.out) p1 p2 (FR1.out _ BB0.out)).mono ?_); rintro e wz1 ⟨rfl, hb⟩; have BB2 := Lib.hid (belG BB0.out hb BB0.out.size); clear hb)
        | (go_at_call 19; (with_reducible refine (CRd.out A5 c5 _ (F0.out _ BB2.out) p7 p8 (FR5.out _ BB2.out)).mono ?_); rintro e wz2 ⟨rfl, hb⟩; have BB3 := Lib.hid (belG BB2.out hb BB2.out.size); clear hb)
        | (go_at_call 32; (with_reducible refine (CD2.out _ (F0.out _ BB3.out) (FR0.out _ BB3.out)).mono ?_); rintro e wz3 ⟨⟨A10, c10, rfl, p9, p10, h10⟩, hb⟩; have BB4 := Lib.hid (belG BB3.out hb BB3.out.size); have R10 := Lib.hid h10; clear h10; clear hb)
        | (go_at_call 21; (with_reducible refine (SD.out A5 A10 c5 c10 _ (F0.out _ BB4.out) p7 p8 (FR5.out _ BB4.out) R10.out).mono ?_); rintro e wz4 ⟨rfl, hb⟩; have BB5 := Lib.hid (belG BB4.out hb BB4.out.size); have nR10 := Lib.hid ((R10.out.below hb (Nat.le_refl _)).more hb.size); clear R10; have R10 := nR10; clear nR10; clear hb))
      all_goals
        have HBq := Lib.hid (F0.out _ BB5.out)
        have qG1 := Lib.hid (oldG G1.out BB5.out (Nat.le_refl _))
        have qG2 := Lib.hid (oldG G2.out BB5.out (Nat.le_refl _))
        have qG3 := Lib.hid (oldG G3.out BB5.out (Nat.le_refl _))
        have qR0 := Lib.hid (FR0.out _ BB5.out)
        have qS0 := Lib.hid (FS0.out _ BB5.out)
        have qS1 := Lib.hid (FS1.out _ BB5.out)
        have qR1 := Lib.hid (FR1.out _ BB5.out)
        have qR2 := Lib.hid (FR2.out _ BB5.out)
        have qR3 := Lib.hid (FR3.out _ BB5.out)
        have qR4 := Lib.hid (FR4.out _ BB5.out)
        have qR5 := Lib.hid (FR5.out _ BB5.out)
        have qR7 := Lib.hid (FR7.out _ BB5.out)
        have qR8 := Lib.hid (FR8.out _ BB5.out)
        have qR9 := Lib.hid (FR9.out _ BB5.out)
        clear HB KEEP F0 R0 S0 S1 R1 R2 R3 R4 R5 R7 R8 R9 FR0 FS0 FS1 FR1 FR2 FR3 FR4 FR5 FR7 FR8 FR9 G0 G1 G2 G3 G4
        have HB := HBq
        have R0 := qR0
        have S0 := qS0
        have S1 := qS1
        have R1 := qR1
        have R2 := qR2
        have R3 := qR3
        have R4 := qR4
        have R5 := qR5
        have R7 := qR7
        have R8 := qR8
        have R9 := qR9
        have G1 := qG1
        have G2 := qG2
        have G3 := qG3
        clear HBq qR0 qS0 qS1 qR1 qR2 qR3 qR4 qR5 qR7 qR8 qR9 qG1 qG2 qG3
        obtain ⟨g2x, g2y⟩ := cG2 G2.out
        obtain ⟨g3x, g3y⟩ := cG2 G3.out
        go_wp2_with fail
        clear g2x g2y g3x g3y
        refine (SM.out A3 A4 c3 c4 _ HB.out p3 p4 R3.out R4.out).mono ?_
        rintro e w33 ⟨rfl, hb⟩
        have nHB := Lib.hid (belG HB.out hb HB.out.size)
        have nR0 := Lib.hid ((R0.out.below hb (Nat.le_refl _)).more hb.size)
        have nS0 := Lib.hid ((S0.out.below hb (Nat.le_refl _)).more hb.size)
        have nS1 := Lib.hid ((S1.out.below hb (Nat.le_refl _)).more hb.size)
        have nR1 := Lib.hid ((R1.out.below hb (Nat.le_refl _)).more hb.size)
        have nR2 := Lib.hid ((R2.out.below hb (Nat.le_refl _)).more hb.size)
        have nR3 := Lib.hid ((R3.out.below hb (Nat.le_refl _)).more hb.size)
        have nR4 := Lib.hid ((R4.out.below hb (Nat.le_refl _)).more hb.size)
        have nR5 := Lib.hid ((R5.out.below hb (Nat.le_refl _)).more hb.size)
        have nR7 := Lib.hid ((R7.out.below hb (Nat.le_refl _)).more hb.size)
        have nR8 := Lib.hid ((R8.out.below hb (Nat.le_refl _)).more hb.size)
        have nR9 := Lib.hid ((R9.out.below hb (Nat.le_refl _)).more hb.size)
        have nG1 := Lib.hid (oldG G1.out hb (Nat.le_refl _))
        have nG2 := Lib.hid (oldG G2.out hb (Nat.le_refl _))
        have nG3 := Lib.hid (oldG G3.out hb (Nat.le_refl _))
        clear hb
        clear HB R0 S0 S1 R1 R2 R3 R4 R5 R7 R8 R9 G1 G2 G3
        have HB := nHB
        have R0 := nR0
        have S0 := nS0
        have S1 := nS1
        have R1 := nR1
        have R2 := nR2
        have R3 := nR3
        have R4 := nR4
        have R5 := nR5
        have R7 := nR7
        have R8 := nR8
        have R9 := nR9
        have G1 := nG1
        have G2 := nG2
        have G3 := nG3
        clear nHB nR0 nS0 nS1 nR1 nR2 nR3 nR4 nR5 nR7 nR8 nR9 nG1 nG2 nG3
        go_wp2_with fail
        refine (SP.out A7 A8 c7 c8 _ HB.out R7.out R8.out).mono ?_
        rintro e w34 ⟨rfl, rfl⟩
        go_wp2_with fail
        refine (SP.out A7 A9 c7 c9 _ HB.out R7.out R9.out).mono ?_
        rintro e w35 ⟨rfl, rfl⟩
        go_wp2_with fail
        go_ret
        exact ⟨by first | rfl | simp, HB.out⟩
  case neg =>
    by_cases heq : no = o
    · have hE : setE no y ≠ 0 := by unfold setE; rw [if_neg hfy]; split <;> decide
      rw [show setM (setL l no x) no y = setL l no x from if_neg hfy] at CS2
      rw [show setM l no y = l from if_neg hfy] at CS3
      have SM := Lib.hid (fun (A1 A2 : Option Addr) (c1 c2 : Nat) w (hB : Below W.heap.size W w) (p1 : (setL l no x).length ≤ c1) (p2 : c1 ≤ 9223372036854775807) (h1 : RdF w w.heap.size A1 (setL l no x)) (h2 : RdF w w.heap.size A2 (setL l no x)) => refSameM_any t t A1 A2 (setL l no x) (setL l no x) c1 c2 w p1 p2 h1 h2)
      simp only [and_self, decide_true] at SM
      obtain ⟨E, hE'⟩ : ∃ E, E = setE no y := ⟨_, rfl⟩
      rw [← hE'] at CS2 CS3 hE
      have hEb : (E != 0) = true := by simpa using hE
      have hEc : (E == 0) = false := by simpa using hE
      have hEd : ((E : Int) != (E : Int)) = false := by simp
      clear hE hE'
      have hoo : ((o : Int) == (no : Int)) = true := by rw [heq]; simp
      clear heq
      clear hRa hRd hup hds hga hgd hF hok hl40 hl450 hR hfx hfy h450 h451 hr hc hz hcm hs hx hxm hw hy hym
      generalize getY l o = YO at *
      generalize getL l o = LO at *
      generalize LO.length = no1 at *
      generalize getY (setL l no x) o = YO2 at *
      generalize getL (setL l no x) o = LO2 at *
      generalize LO2.length = no2 at *
      generalize getY (dropF l no) o = YO3 at *
      generalize getL (dropF l no) o = LO3 at *
      generalize LO3.length = no3 at *
      generalize setL l no x = LA at *
      generalize LA.length = na at *
      generalize dropF l no = LD at *
      generalize LD.length = nd at *
      obtain ⟨n, hn⟩ : ∃ n, n = l.length := ⟨_, rfl⟩
      rw [← hn] at CF CR CS1 CS3 CG3 CD2
      rw [← hn]
      clear hn
      generalize x.length = mx at *
      generalize y.length = my at *
      obtain ⟨V0, hV, hb, hg, hg2⟩ := box2 W #[.int .i64 t, .slice A n c, .int .i64 no, .slice B mx cb, .slice C my cc, .int .i64 o] #[.int .i64 t, .slice A n c] 53 24
      have HB := Lib.hid hb
      have G0 := Lib.hid hg2
      have nR0 := Lib.hid ((R0.out.below hb (Nat.le_refl _)).more hb.size)
      have nS0 := Lib.hid ((S0.out.below hb (Nat.le_refl _)).more hb.size)
      have nS1 := Lib.hid ((S1.out.below hb (Nat.le_refl _)).more hb.size)
      have HV := Lib.hid hV
      have y0 : (W.alloc (.cells #[.int .i64 t, .slice A n c, .int .i64 no, .slice B mx cb, .slice C my cc, .int .i64 o] 53)).cell? ⟨W.heap.size, 0, none⟩ = some (.int .i64 t) := (cell_of_row _ _ _ _ _ _ (heap_alloc_new W _)).trans rfl
      have y1 : (W.alloc (.cells #[.int .i64 t, .slice A n c, .int .i64 no, .slice B mx cb, .slice C my cc, .int .i64 o] 53)).cell? ⟨W.heap.size, 1, none⟩ = some (.slice A n c) := (cell_of_row _ _ _ _ _ _ (heap_alloc_new W _)).trans rfl
      have y2 : V0.cell? ⟨W.heap.size, 2, none⟩ = some (.int .i64 no) := (cell_of_row _ _ _ _ _ _ hg).trans rfl
      have y3 : V0.cell? ⟨W.heap.size, 3, none⟩ = some (.slice B mx cb) := (cell_of_row _ _ _ _ _ _ hg).trans rfl
      have y4 : V0.cell? ⟨W.heap.size, 4, none⟩ = some (.slice C my cc) := (cell_of_row _ _ _ _ _ _ hg).trans rfl
      have y5 : V0.cell? ⟨W.heap.size, 5, none⟩ = some (.int .i64 o) := (cell_of_row _ _ _ _ _ _ hg).trans rfl
      rw [hV] at y2 y3 y4 y5
      clear hb hg hg2 hV
      clear R0 S0 S1
      have R0 := nR0
      have S0 := nS0
      have S1 := nS1
      clear nR0 nS0 nS1
      go_enter Tryd.func7, Tryd.ntmps7
      go_wp2_with fail
      clear y0 y1 y2 y3 y4 y5
      rw [← HV.out]
      clear HV
      refine (shown7_any _ (HT.out.below HB.out)).mono ?_
      rintro e w1 ⟨rfl, hb⟩
      have nHB := Lib.hid (belG HB.out hb HB.out.size)
      have nR0 := Lib.hid ((R0.out.below hb (Nat.le_refl _)).more hb.size)
      have nS0 := Lib.hid ((S0.out.below hb (Nat.le_refl _)).more hb.size)
      have nS1 := Lib.hid ((S1.out.below hb (Nat.le_refl _)).more hb.size)
      have nG0 := Lib.hid (oldG G0.out hb (Nat.le_refl _))
      clear hb
      clear HB R0 S0 S1 G0
      have HB := nHB
      have R0 := nR0
      have S0 := nS0
      have S1 := nS1
      have G0 := nG0
      clear nHB nR0 nS0 nS1 nG0
      obtain ⟨g0x, g0y⟩ := cG2 G0.out
      go_wp2_with fail
      clear g0x g0y
      refine (CF.out _ HB.out R0.out).mono ?_
      rintro e w2 ⟨rfl, hb⟩
      have nHB := Lib.hid (belG HB.out hb HB.out.size)
      have nR0 := Lib.hid ((R0.out.below hb (Nat.le_refl _)).more hb.size)
      have nS0 := Lib.hid ((S0.out.below hb (Nat.le_refl _)).more hb.size)
      have nS1 := Lib.hid ((S1.out.below hb (Nat.le_refl _)).more hb.size)
      have nG0 := Lib.hid (oldG G0.out hb (Nat.le_refl _))
      clear hb
      clear HB R0 S0 S1 G0
      have HB := nHB
      have R0 := nR0
      have S0 := nS0
      have S1 := nS1
      have G0 := nG0
      clear nHB nR0 nS0 nS1 nG0
      obtain ⟨g0x, g0y⟩ := cG2 G0.out
      go_wp2_with fail
      clear g0x g0y
      refine (CR.out _ HB.out R0.out).mono ?_
      rintro e w3 ⟨rfl, hb⟩
      have nHB := Lib.hid (belG HB.out hb HB.out.size)
      have nR0 := Lib.hid ((R0.out.below hb (Nat.le_refl _)).more hb.size)
      have nS0 := Lib.hid ((S0.out.below hb (Nat.le_refl _)).more hb.size)
      have nS1 := Lib.hid ((S1.out.below hb (Nat.le_refl _)).more hb.size)
      have nG0 := Lib.hid (oldG G0.out hb (Nat.le_refl _))
      clear hb
      clear HB R0 S0 S1 G0
      have HB := nHB
      have R0 := nR0
      have S0 := nS0
      have S1 := nS1
      have G0 := nG0
      clear nHB nR0 nS0 nS1 nG0
      obtain ⟨g0x, g0y⟩ := cG2 G0.out
      go_wp2_with fail
      clear g0x g0y
      refine (CS1.out _ HB.out R0.out S0.out).mono ?_
      rintro e w4 ⟨⟨A1, c1, rfl, p1, p2, h1⟩, hb⟩
      have nHB := Lib.hid (belG HB.out hb HB.out.size)
      have nR0 := Lib.hid ((R0.out.below hb (Nat.le_refl _)).more hb.size)
      have nS0 := Lib.hid ((S0.out.below hb (Nat.le_refl _)).more hb.size)
      have nS1 := Lib.hid ((S1.out.below hb (Nat.le_refl _)).more hb.size)
      have nG0 := Lib.hid (oldG G0.out hb (Nat.le_refl _))
      clear hb
      clear HB R0 S0 S1 G0
      have HB := nHB
      have R0 := nR0
      have S0 := nS0
      have S1 := nS1
      have G0 := nG0
      clear nHB nR0 nS0 nS1 nG0
      have R1 := Lib.hid h1
      clear h1
      obtain ⟨V4, hV4⟩ : ∃ V, V = w4.alloc (.cells #[.int .i64 t, .slice A1 na c1] 24) := ⟨_, rfl⟩
      have ha := (Below.refl w4.heap.size w4).alloc (Nat.le_refl _) (.cells #[.int .i64 t, .slice A1 na c1] 24)
      have hg := heap_alloc_new w4 (.cells #[.int .i64 t, .slice A1 na c1] 24)
      have nHB := Lib.hid (HB.out.alloc HB.out.size (.cells #[.int .i64 t, .slice A1 na c1] 24))
      rw [← hV4] at ha hg nHB
      have nR0 := Lib.hid ((R0.out.below ha (Nat.le_refl _)).more ha.size)
      have nS0 := Lib.hid ((S0.out.below ha (Nat.le_refl _)).more ha.size)
      have nS1 := Lib.hid ((S1.out.below ha (Nat.le_refl _)).more ha.size)
      have nR1 := Lib.hid ((R1.out.below ha (Nat.le_refl _)).more ha.size)
      have nG0 := Lib.hid (oldG G0.out ha (Nat.le_refl _))
      obtain ⟨g1, hg1⟩ : ∃ g, g = w4.heap.size := ⟨_, rfl⟩
      rw [← hg1] at hg
      have HXG1 := Lib.hid hg1
      have G1 := Lib.hid hg
      have HV := Lib.hid hV4
      clear ha hg hV4 hg1
      clear HB R0 S0 S1 R1 G0
      have HB := nHB
      have R0 := nR0
      have S0 := nS0
      have S1 := nS1
      have R1 := nR1
      have G0 := nG0
      clear nHB nR0 nS0 nS1 nR1 nG0
      obtain ⟨g1x, g1y⟩ := cG2 G1.out
      rw [HV.out] at g1x g1y
      rw [HXG1.out] at g1x g1y
      go_wp2_with fail
      clear g1x g1y
      rw [← HV.out]
      (try rw [← HXG1.out])
      clear HV HXG1
      refine (CG1.out A1 c1 _ HB.out p1 p2 R1.out).mono ?_
      rintro e w5 ⟨⟨A2, c2, rfl, -, -, h2⟩, hb⟩
      have nHB := Lib.hid (belG HB.out hb HB.out.size)
      have nR0 := Lib.hid ((R0.out.below hb (Nat.le_refl _)).more hb.size)
      have nS0 := Lib.hid ((S0.out.below hb (Nat.le_refl _)).more hb.size)
      have nS1 := Lib.hid ((S1.out.below hb (Nat.le_refl _)).more hb.size)
      have nR1 := Lib.hid ((R1.out.below hb (Nat.le_refl _)).more hb.size)
      have nG0 := Lib.hid (oldG G0.out hb (Nat.le_refl _))
      have nG1 := Lib.hid (oldG G1.out hb (Nat.le_refl _))
      clear hb
      clear HB R0 S0 S1 R1 G0 G1
      have HB := nHB
      have R0 := nR0
      have S0 := nS0
      have S1 := nS1
      have R1 := nR1
      have G0 := nG0
      have G1 := nG1
      clear nHB nR0 nS0 nS1 nR1 nG0 nG1
      have R2 := Lib.hid h2
      clear h2
      obtain ⟨g1x, g1y⟩ := cG2 G1.out
      go_wp2_with fail
      clear g1x g1y
      refine (CS2.out A1 c1 _ HB.out p1 p2 R1.out S1.out).mono ?_
      rintro e w6 ⟨⟨A3, c3, rfl, p3, p4, h3⟩, hb⟩
      have nHB := Lib.hid (belG HB.out hb HB.out.size)
      have nR0 := Lib.hid ((R0.out.below hb (Nat.le_refl _)).more hb.size)
      have nS0 := Lib.hid ((S0.out.below hb (Nat.le_refl _)).more hb.size)
      have nS1 := Lib.hid ((S1.out.below hb (Nat.le_refl _)).more hb.size)
      have nR1 := Lib.hid ((R1.out.below hb (Nat.le_refl _)).more hb.size)
      have nR2 := Lib.hid ((R2.out.below hb (Nat.le_refl _)).more hb.size)
      have nG0 := Lib.hid (oldG G0.out hb (Nat.le_refl _))
      have nG1 := Lib.hid (oldG G1.out hb (Nat.le_refl _))
      clear hb
      clear HB R0 S0 S1 R1 R2 G0 G1
      have HB := nHB
      have R0 := nR0
      have S0 := nS0
      have S1 := nS1
      have R1 := nR1
      have R2 := nR2
      have G0 := nG0
      have G1 := nG1
      clear nHB nR0 nS0 nS1 nR1 nR2 nG0 nG1
      have R3 := Lib.hid h3
      clear h3
      obtain ⟨V6, hV6⟩ : ∃ V, V = w6.alloc (.cells #[.int .i64 t, .slice A3 na c3] 24) := ⟨_, rfl⟩
      have ha := (Below.refl w6.heap.size w6).alloc (Nat.le_refl _) (.cells #[.int .i64 t, .slice A3 na c3] 24)
      have hg := heap_alloc_new w6 (.cells #[.int .i64 t, .slice A3 na c3] 24)
      have nHB := Lib.hid (HB.out.alloc HB.out.size (.cells #[.int .i64 t, .slice A3 na c3] 24))
      rw [← hV6] at ha hg nHB
      have nR0 := Lib.hid ((R0.out.below ha (Nat.le_refl _)).more ha.size)
      have nS0 := Lib.hid ((S0.out.below ha (Nat.le_refl _)).more ha.size)
      have nS1 := Lib.hid ((S1.out.below ha (Nat.le_refl _)).more ha.size)
      have nR1 := Lib.hid ((R1.out.below ha (Nat.le_refl _)).more ha.size)
      have nR2 := Lib.hid ((R2.out.below ha (Nat.le_refl _)).more ha.size)
      have nR3 := Lib.hid ((R3.out.below ha (Nat.le_refl _)).more ha.size)
      have nG0 := Lib.hid (oldG G0.out ha (Nat.le_refl _))
      have nG1 := Lib.hid (oldG G1.out ha (Nat.le_refl _))
      obtain ⟨g2, hg2⟩ : ∃ g, g = w6.heap.size := ⟨_, rfl⟩
      rw [← hg2] at hg
      have HXG2 := Lib.hid hg2
      have G2 := Lib.hid hg
      have HV := Lib.hid hV6
      clear ha hg hV6 hg2
      clear HB R0 S0 S1 R1 R2 R3 G0 G1
      have HB := nHB
      have R0 := nR0
      have S0 := nS0
      have S1 := nS1
      have R1 := nR1
      have R2 := nR2
      have R3 := nR3
      have G0 := nG0
      have G1 := nG1
      clear nHB nR0 nS0 nS1 nR1 nR2 nR3 nG0 nG1
      obtain ⟨g0x, g0y⟩ := cG2 G0.out
      rw [HV.out] at g0x g0y
      go_wp2_with fail
      clear g0x g0y
      rw [← HV.out]
      (try rw [← HXG2.out])
      clear HV HXG2
      refine (CS3.out _ HB.out R0.out S1.out).mono ?_
      rintro e w7 ⟨⟨A4, c4, rfl, p5, p6, h4⟩, hb⟩
      have nHB := Lib.hid (belG HB.out hb HB.out.size)
      have nR0 := Lib.hid ((R0.out.below hb (Nat.le_refl _)).more hb.size)
      have nS0 := Lib.hid ((S0.out.below hb (Nat.le_refl _)).more hb.size)
      have nS1 := Lib.hid ((S1.out.below hb (Nat.le_refl _)).more hb.size)
      have nR1 := Lib.hid ((R1.out.below hb (Nat.le_refl _)).more hb.size)
      have nR2 := Lib.hid ((R2.out.below hb (Nat.le_refl _)).more hb.size)
      have nR3 := Lib.hid ((R3.out.below hb (Nat.le_refl _)).more hb.size)
      have nG0 := Lib.hid (oldG G0.out hb (Nat.le_refl _))
      have nG1 := Lib.hid (oldG G1.out hb (Nat.le_refl _))
      have nG2 := Lib.hid (oldG G2.out hb (Nat.le_refl _))
      clear hb
      clear HB R0 S0 S1 R1 R2 R3 G0 G1 G2
      have HB := nHB
      have R0 := nR0
      have S0 := nS0
      have S1 := nS1
      have R1 := nR1
      have R2 := nR2
      have R3 := nR3
      have G0 := nG0
      have G1 := nG1
      have G2 := nG2
      clear nHB nR0 nS0 nS1 nR1 nR2 nR3 nG0 nG1 nG2
      have R4 := Lib.hid h4
      clear h4
      obtain ⟨V7, hV7⟩ : ∃ V, V = w7.alloc (.cells #[.int .i64 t, .slice A4 n c4] 24) := ⟨_, rfl⟩
      have ha := (Below.refl w7.heap.size w7).alloc (Nat.le_refl _) (.cells #[.int .i64 t, .slice A4 n c4] 24)
      have hg := heap_alloc_new w7 (.cells #[.int .i64 t, .slice A4 n c4] 24)
      have nHB := Lib.hid (HB.out.alloc HB.out.size (.cells #[.int .i64 t, .slice A4 n c4] 24))
      rw [← hV7] at ha hg nHB
      have nR0 := Lib.hid ((R0.out.below ha (Nat.le_refl _)).more ha.size)
      have nS0 := Lib.hid ((S0.out.below ha (Nat.le_refl _)).more ha.size)
      have nS1 := Lib.hid ((S1.out.below ha (Nat.le_refl _)).more ha.size)
      have nR1 := Lib.hid ((R1.out.below ha (Nat.le_refl _)).more ha.size)
      have nR2 := Lib.hid ((R2.out.below ha (Nat.le_refl _)).more ha.size)
      have nR3 := Lib.hid ((R3.out.below ha (Nat.le_refl _)).more ha.size)
      have nR4 := Lib.hid ((R4.out.below ha (Nat.le_refl _)).more ha.size)
      have nG0 := Lib.hid (oldG G0.out ha (Nat.le_refl _))
      have nG1 := Lib.hid (oldG G1.out ha (Nat.le_refl _))
      have nG2 := Lib.hid (oldG G2.out ha (Nat.le_refl _))
      obtain ⟨g3, hg3⟩ : ∃ g, g = w7.heap.size := ⟨_, rfl⟩
      rw [← hg3] at hg
      have HXG3 := Lib.hid hg3
      have G3 := Lib.hid hg
      have HV := Lib.hid hV7
      clear ha hg hV7 hg3
      clear HB R0 S0 S1 R1 R2 R3 R4 G0 G1 G2
      have HB := nHB
      have R0 := nR0
      have S0 := nS0
      have S1 := nS1
      have R1 := nR1
      have R2 := nR2
      have R3 := nR3
      have R4 := nR4
      have G0 := nG0
      have G1 := nG1
      have G2 := nG2
      clear nHB nR0 nS0 nS1 nR1 nR2 nR3 nR4 nG0 nG1 nG2
      obtain ⟨g1x, g1y⟩ := cG2 G1.out
      rw [HV.out] at g1x g1y
      go_wp2_with fail
      clear g1x g1y
      rw [← HV.out]
      (try rw [← HXG3.out])
      clear HV HXG3
      refine (CD1.out A1 c1 _ HB.out p1 p2 R1.out).mono ?_
      rintro e w8 ⟨⟨A5, c5, rfl, p7, p8, h5⟩, hb⟩
      have nHB := Lib.hid (belG HB.out hb HB.out.size)
      have nR0 := Lib.hid ((R0.out.below hb (Nat.le_refl _)).more hb.size)
      have nS0 := Lib.hid ((S0.out.below hb (Nat.le_refl _)).more hb.size)
      have nS1 := Lib.hid ((S1.out.below hb (Nat.le_refl _)).more hb.size)
      have nR1 := Lib.hid ((R1.out.below hb (Nat.le_refl _)).more hb.size)
      have nR2 := Lib.hid ((R2.out.below hb (Nat.le_refl _)).more hb.size)
      have nR3 := Lib.hid ((R3.out.below hb (Nat.le_refl _)).more hb.size)
      have nR4 := Lib.hid ((R4.out.below hb (Nat.le_refl _)).more hb.size)
      have nG0 := Lib.hid (oldG G0.out hb (Nat.le_refl _))
      have nG1 := Lib.hid (oldG G1.out hb (Nat.le_refl _))
      have nG2 := Lib.hid (oldG G2.out hb (Nat.le_refl _))
      have nG3 := Lib.hid (oldG G3.out hb (Nat.le_refl _))
      clear hb
      clear HB R0 S0 S1 R1 R2 R3 R4 G0 G1 G2 G3
      have HB := nHB
      have R0 := nR0
      have S0 := nS0
      have S1 := nS1
      have R1 := nR1
      have R2 := nR2
      have R3 := nR3
      have R4 := nR4
      have G0 := nG0
      have G1 := nG1
      have G2 := nG2
      have G3 := nG3
      clear nHB nR0 nS0 nS1 nR1 nR2 nR3 nR4 nG0 nG1 nG2 nG3
      have R5 := Lib.hid h5
      clear h5
      obtain ⟨V8, hV8⟩ : ∃ V, V = w8.alloc (.cells #[.int .i64 t, .slice A5 nd c5] 24) := ⟨_, rfl⟩
      have ha := (Below.refl w8.heap.size w8).alloc (Nat.le_refl _) (.cells #[.int .i64 t, .slice A5 nd c5] 24)
      have hg := heap_alloc_new w8 (.cells #[.int .i64 t, .slice A5 nd c5] 24)
      have nHB := Lib.hid (HB.out.alloc HB.out.size (.cells #[.int .i64 t, .slice A5 nd c5] 24))
      rw [← hV8] at ha hg nHB
      have nR0 := Lib.hid ((R0.out.below ha (Nat.le_refl _)).more ha.size)
      have nS0 := Lib.hid ((S0.out.below ha (Nat.le_refl _)).more ha.size)
      have nS1 := Lib.hid ((S1.out.below ha (Nat.le_refl _)).more ha.size)
      have nR1 := Lib.hid ((R1.out.below ha (Nat.le_refl _)).more ha.size)
      have nR2 := Lib.hid ((R2.out.below ha (Nat.le_refl _)).more ha.size)
      have nR3 := Lib.hid ((R3.out.below ha (Nat.le_refl _)).more ha.size)
      have nR4 := Lib.hid ((R4.out.below ha (Nat.le_refl _)).more ha.size)
      have nR5 := Lib.hid ((R5.out.below ha (Nat.le_refl _)).more ha.size)
      have nG0 := Lib.hid (oldG G0.out ha (Nat.le_refl _))
      have nG1 := Lib.hid (oldG G1.out ha (Nat.le_refl _))
      have nG2 := Lib.hid (oldG G2.out ha (Nat.le_refl _))
      have nG3 := Lib.hid (oldG G3.out ha (Nat.le_refl _))
      obtain ⟨g4, hg4⟩ : ∃ g, g = w8.heap.size := ⟨_, rfl⟩
      rw [← hg4] at hg
      have HXG4 := Lib.hid hg4
      have G4 := Lib.hid hg
      have HV := Lib.hid hV8
      clear ha hg hV8 hg4
      clear HB R0 S0 S1 R1 R2 R3 R4 R5 G0 G1 G2 G3
      have HB := nHB
      have R0 := nR0
      have S0 := nS0
      have S1 := nS1
      have R1 := nR1
      have R2 := nR2
      have R3 := nR3
      have R4 := nR4
      have R5 := nR5
      have G0 := nG0
      have G1 := nG1
      have G2 := nG2
      have G3 := nG3
      clear nHB nR0 nS0 nS1 nR1 nR2 nR3 nR4 nR5 nG0 nG1 nG2 nG3
      obtain ⟨g4x, g4y⟩ := cG2 G4.out
      rw [HV.out] at g4x g4y
      rw [HXG4.out] at g4x g4y
      go_wp2_with fail
      clear g4x g4y
      rw [← HV.out]
      (try rw [← HXG4.out])
      clear HV HXG4
      refine (CG2.out A5 c5 _ HB.out p7 p8 R5.out).mono ?_
      rintro e w9 ⟨⟨A6, c6, rfl, -, -, -⟩, hb⟩
      have nHB := Lib.hid (belG HB.out hb HB.out.size)
      have nR0 := Lib.hid ((R0.out.below hb (Nat.le_refl _)).more hb.size)
      have nS0 := Lib.hid ((S0.out.below hb (Nat.le_refl _)).more hb.size)
      have nS1 := Lib.hid ((S1.out.below hb (Nat.le_refl _)).more hb.size)
      have nR1 := Lib.hid ((R1.out.below hb (Nat.le_refl _)).more hb.size)
      have nR2 := Lib.hid ((R2.out.below hb (Nat.le_refl _)).more hb.size)
      have nR3 := Lib.hid ((R3.out.below hb (Nat.le_refl _)).more hb.size)
      have nR4 := Lib.hid ((R4.out.below hb (Nat.le_refl _)).more hb.size)
      have nR5 := Lib.hid ((R5.out.below hb (Nat.le_refl _)).more hb.size)
      have nG0 := Lib.hid (oldG G0.out hb (Nat.le_refl _))
      have nG1 := Lib.hid (oldG G1.out hb (Nat.le_refl _))
      have nG2 := Lib.hid (oldG G2.out hb (Nat.le_refl _))
      have nG3 := Lib.hid (oldG G3.out hb (Nat.le_refl _))
      have nG4 := Lib.hid (oldG G4.out hb (Nat.le_refl _))
      clear hb
      clear HB R0 S0 S1 R1 R2 R3 R4 R5 G0 G1 G2 G3 G4
      have HB := nHB
      have R0 := nR0
      have S0 := nS0
      have S1 := nS1
      have R1 := nR1
      have R2 := nR2
      have R3 := nR3
      have R4 := nR4
      have R5 := nR5
      have G0 := nG0
      have G1 := nG1
      have G2 := nG2
      have G3 := nG3
      have G4 := nG4
      clear nHB nR0 nS0 nS1 nR1 nR2 nR3 nR4 nR5 nG0 nG1 nG2 nG3 nG4
      obtain ⟨g0x, g0y⟩ := cG2 G0.out
      go_wp2_with fail
      clear g0x g0y
      refine (CG3.out _ HB.out R0.out).mono ?_
      rintro e w10 ⟨⟨A7, c7, rfl, -, -, h7⟩, hb⟩
      have nHB := Lib.hid (belG HB.out hb HB.out.size)
      have nR0 := Lib.hid ((R0.out.below hb (Nat.le_refl _)).more hb.size)
      have nS0 := Lib.hid ((S0.out.below hb (Nat.le_refl _)).more hb.size)
      have nS1 := Lib.hid ((S1.out.below hb (Nat.le_refl _)).more hb.size)
      have nR1 := Lib.hid ((R1.out.below hb (Nat.le_refl _)).more hb.size)
      have nR2 := Lib.hid ((R2.out.below hb (Nat.le_refl _)).more hb.size)
      have nR3 := Lib.hid ((R3.out.below hb (Nat.le_refl _)).more hb.size)
      have nR4 := Lib.hid ((R4.out.below hb (Nat.le_refl _)).more hb.size)
      have nR5 := Lib.hid ((R5.out.below hb (Nat.le_refl _)).more hb.size)
      have nG0 := Lib.hid (oldG G0.out hb (Nat.le_refl _))
      have nG1 := Lib.hid (oldG G1.out hb (Nat.le_refl _))
      have nG2 := Lib.hid (oldG G2.out hb (Nat.le_refl _))
      have nG3 := Lib.hid (oldG G3.out hb (Nat.le_refl _))
      have nG4 := Lib.hid (oldG G4.out hb (Nat.le_refl _))
      clear hb
      clear HB R0 S0 S1 R1 R2 R3 R4 R5 G0 G1 G2 G3 G4
      have HB := nHB
      have R0 := nR0
      have S0 := nS0
      have S1 := nS1
      have R1 := nR1
      have R2 := nR2
      have R3 := nR3
      have R4 := nR4
      have R5 := nR5
      have G0 := nG0
      have G1 := nG1
      have G2 := nG2
      have G3 := nG3
      have G4 := nG4
      clear nHB nR0 nS0 nS1 nR1 nR2 nR3 nR4 nR5 nG0 nG1 nG2 nG3 nG4
      have R7 := Lib.hid h7
      clear h7
      obtain ⟨g1x, g1y⟩ := cG2 G1.out
      go_wp2_with fail
      clear g1x g1y
      refine (CG4.out A1 c1 _ HB.out p1 p2 R1.out).mono ?_
      rintro e w11 ⟨⟨A8, c8, rfl, -, -, h8⟩, hb⟩
      have nHB := Lib.hid (belG HB.out hb HB.out.size)
      have nR0 := Lib.hid ((R0.out.below hb (Nat.le_refl _)).more hb.size)
      have nS0 := Lib.hid ((S0.out.below hb (Nat.le_refl _)).more hb.size)
      have nS1 := Lib.hid ((S1.out.below hb (Nat.le_refl _)).more hb.size)
      have nR1 := Lib.hid ((R1.out.below hb (Nat.le_refl _)).more hb.size)
      have nR2 := Lib.hid ((R2.out.below hb (Nat.le_refl _)).more hb.size)
      have nR3 := Lib.hid ((R3.out.below hb (Nat.le_refl _)).more hb.size)
      have nR4 := Lib.hid ((R4.out.below hb (Nat.le_refl _)).more hb.size)
      have nR5 := Lib.hid ((R5.out.below hb (Nat.le_refl _)).more hb.size)
      have nR7 := Lib.hid ((R7.out.below hb (Nat.le_refl _)).more hb.size)
      have nG0 := Lib.hid (oldG G0.out hb (Nat.le_refl _))
      have nG1 := Lib.hid (oldG G1.out hb (Nat.le_refl _))
      have nG2 := Lib.hid (oldG G2.out hb (Nat.le_refl _))
      have nG3 := Lib.hid (oldG G3.out hb (Nat.le_refl _))
      have nG4 := Lib.hid (oldG G4.out hb (Nat.le_refl _))
      clear hb
      clear HB R0 S0 S1 R1 R2 R3 R4 R5 R7 G0 G1 G2 G3 G4
      have HB := nHB
      have R0 := nR0
      have S0 := nS0
      have S1 := nS1
      have R1 := nR1
      have R2 := nR2
      have R3 := nR3
      have R4 := nR4
      have R5 := nR5
      have R7 := nR7
      have G0 := nG0
      have G1 := nG1
      have G2 := nG2
      have G3 := nG3
      have G4 := nG4
      clear nHB nR0 nS0 nS1 nR1 nR2 nR3 nR4 nR5 nR7 nG0 nG1 nG2 nG3 nG4
      have R8 := Lib.hid h8
      clear h8
      obtain ⟨g4x, g4y⟩ := cG2 G4.out
      go_wp2_with fail
      clear g4x g4y
      refine (CG5.out A5 c5 _ HB.out p7 p8 R5.out).mono ?_
      rintro e w12 ⟨⟨A9, c9, rfl, -, -, h9⟩, hb⟩
      have nHB := Lib.hid (belG HB.out hb HB.out.size)
      have nR0 := Lib.hid ((R0.out.below hb (Nat.le_refl _)).more hb.size)
      have nS0 := Lib.hid ((S0.out.below hb (Nat.le_refl _)).more hb.size)
      have nS1 := Lib.hid ((S1.out.below hb (Nat.le_refl _)).more hb.size)
      have nR1 := Lib.hid ((R1.out.below hb (Nat.le_refl _)).more hb.size)
      have nR2 := Lib.hid ((R2.out.below hb (Nat.le_refl _)).more hb.size)
      have nR3 := Lib.hid ((R3.out.below hb (Nat.le_refl _)).more hb.size)
      have nR4 := Lib.hid ((R4.out.below hb (Nat.le_refl _)).more hb.size)
      have nR5 := Lib.hid ((R5.out.below hb (Nat.le_refl _)).more hb.size)
      have nR7 := Lib.hid ((R7.out.below hb (Nat.le_refl _)).more hb.size)
      have nR8 := Lib.hid ((R8.out.below hb (Nat.le_refl _)).more hb.size)
      have nG0 := Lib.hid (oldG G0.out hb (Nat.le_refl _))
      have nG1 := Lib.hid (oldG G1.out hb (Nat.le_refl _))
      have nG2 := Lib.hid (oldG G2.out hb (Nat.le_refl _))
      have nG3 := Lib.hid (oldG G3.out hb (Nat.le_refl _))
      have nG4 := Lib.hid (oldG G4.out hb (Nat.le_refl _))
      clear hb
      clear HB R0 S0 S1 R1 R2 R3 R4 R5 R7 R8 G0 G1 G2 G3 G4
      have HB := nHB
      have R0 := nR0
      have S0 := nS0
      have S1 := nS1
      have R1 := nR1
      have R2 := nR2
      have R3 := nR3
      have R4 := nR4
      have R5 := nR5
      have R7 := nR7
      have R8 := nR8
      have G0 := nG0
      have G1 := nG1
      have G2 := nG2
      have G3 := nG3
      have G4 := nG4
      clear nHB nR0 nS0 nS1 nR1 nR2 nR3 nR4 nR5 nR7 nR8 nG0 nG1 nG2 nG3 nG4
      have R9 := Lib.hid h9
      clear h9
      have BB0 := Lib.hid ((Below.refl w12.heap.size w12).drew)
      have F0 := Lib.hid (fun w (h : Below w12.heap.size w12 w) => belG HB.out h HB.out.size)
      have FR0 := Lib.hid (fun w (h : Below w12.heap.size w12 w) => (R0.out.below h (Nat.le_refl _)).more h.size)
      have FS0 := Lib.hid (fun w (h : Below w12.heap.size w12 w) => (S0.out.below h (Nat.le_refl _)).more h.size)
      have FS1 := Lib.hid (fun w (h : Below w12.heap.size w12 w) => (S1.out.below h (Nat.le_refl _)).more h.size)
      have FR1 := Lib.hid (fun w (h : Below w12.heap.size w12 w) => (R1.out.below h (Nat.le_refl _)).more h.size)
      have FR2 := Lib.hid (fun w (h : Below w12.heap.size w12 w) => (R2.out.below h (Nat.le_refl _)).more h.size)
      have FR3 := Lib.hid (fun w (h : Below w12.heap.size w12 w) => (R3.out.below h (Nat.le_refl _)).more h.size)
      have FR4 := Lib.hid (fun w (h : Below w12.heap.size w12 w) => (R4.out.below h (Nat.le_refl _)).more h.size)
      have FR5 := Lib.hid (fun w (h : Below w12.heap.size w12 w) => (R5.out.below h (Nat.le_refl _)).more h.size)
      have FR7 := Lib.hid (fun w (h : Below w12.heap.size w12 w) => (R7.out.below h (Nat.le_refl _)).more h.size)
      have FR8 := Lib.hid (fun w (h : Below w12.heap.size w12 w) => (R8.out.below h (Nat.le_refl _)).more h.size)
      have FR9 := Lib.hid (fun w (h : Below w12.heap.size w12 w) => (R9.out.below h (Nat.le_refl _)).more h.size)
      have KEEP := Lib.hid (fun w' (h : Below w12.heap.size w12 w') => (show Below w12.heap.size w12 w' ∧ w'.cell? ⟨W.heap.size + 1, 0, none⟩ = some (.int .i64 t) ∧ w'.cell? ⟨W.heap.size + 1, 1, none⟩ = some (.slice A n c) ∧ w'.cell? ⟨g1, 0, none⟩ = some (.int .i64 t) ∧ w'.cell? ⟨g1, 1, none⟩ = some (.slice A1 na c1) ∧ w'.cell? ⟨g4, 0, none⟩ = some (.int .i64 t) ∧ w'.cell? ⟨g4, 1, none⟩ = some (.slice A5 nd c5) from by
        obtain ⟨z0, u0⟩ := cG2 (oldG G0.out h (Nat.le_refl _))
        obtain ⟨z1, u1⟩ := cG2 (oldG G1.out h (Nat.le_refl _))
        obtain ⟨z2, u2⟩ := cG2 (oldG G4.out h (Nat.le_refl _))
        exact ⟨h, z0, u0, z1, u1, z2, u2⟩))
      go_wp2_with fail
      go_region_held3 (fun w' => Below w12.heap.size w12 w' ∧ w'.cell? ⟨W.heap.size + 1, 0, none⟩ = some (.int .i64 t) ∧ w'.cell? ⟨W.heap.size + 1, 1, none⟩ = some (.slice A n c) ∧ w'.cell? ⟨g1, 0, none⟩ = some (.int .i64 t) ∧ w'.cell? ⟨g1, 1, none⟩ = some (.slice A1 na c1) ∧ w'.cell? ⟨g4, 0, none⟩ = some (.int .i64 t) ∧ w'.cell? ⟨g4, 1, none⟩ = some (.slice A5 nd c5))
        (first | with_reducible exact KEEP.out _ BB0.out | with_reducible exact KEEP.out _ BB2.out | with_reducible exact KEEP.out _ BB3.out | with_reducible exact KEEP.out _ BB4.out | with_reducible exact KEEP.out _ BB5.out)
        (first
        | (go_at_call 17; (with_reducible refine (SX.out A2 B c2 cb _ (F0.out _ BB0.out) (FR2.out _ BB0.out) (FS0.out _ BB0.out)).mono ?_); rintro e wz0 ⟨rfl, rfl⟩)
        | (go_at_call 19; (with_reducible refine (CRa.out A1 c1 _ (F0.out _ BB0.out) p1 p2 (FR1.out _ BB0.out)).mono ?_); rintro e wz1 ⟨rfl, hb⟩; have BB2 := Lib.hid (belG BB0.out hb BB0.out.size); clear hb)
        | (go_at_call 19; (with_reducible refine (CRd.out A5 c5 _ (F0.out _ BB2.out) p7 p8 (FR5.out _ BB2.out)).mono ?_); rintro e wz2 ⟨rfl, hb⟩; have BB3 := Lib.hid (belG BB2.out hb BB2.out.size); clear hb)
        | (go_at_call 32; (with_reducible refine (CD2.out _ (F0.out _ BB3.out) (FR0.out _ BB3.out)).mono ?_); rintro e wz3 ⟨⟨A10, c10, rfl, p9, p10, h10⟩, hb⟩; have BB4 := Lib.hid (belG BB3.out hb BB3.out.size); have R10 := Lib.hid h10; clear h10; clear hb)
        | (go_at_call 21; (with_reducible refine (SD.out A5 A10 c5 c10 _ (F0.out _ BB4.out) p7 p8 (FR5.out _ BB4.out) R10.out).mono ?_); rintro e wz4 ⟨rfl, hb⟩; have BB5 := Lib.hid (belG BB4.out hb BB4.out.size); have nR10 := Lib.hid ((R10.out.below hb (Nat.le_refl _)).more hb.size); clear R10; have R10 := nR10; clear nR10; clear hb))
      all_goals
        have HBq := Lib.hid (F0.out _ BB5.out)
        have qG1 := Lib.hid (oldG G1.out BB5.out (Nat.le_refl _))
        have qG2 := Lib.hid (oldG G2.out BB5.out (Nat.le_refl _))
        have qG3 := Lib.hid (oldG G3.out BB5.out (Nat.le_refl _))
        have qR0 := Lib.hid (FR0.out _ BB5.out)
        have qS0 := Lib.hid (FS0.out _ BB5.out)
        have qS1 := Lib.hid (FS1.out _ BB5.out)
        have qR1 := Lib.hid (FR1.out _ BB5.out)
        have qR2 := Lib.hid (FR2.out _ BB5.out)
        have qR3 := Lib.hid (FR3.out _ BB5.out)
        have qR4 := Lib.hid (FR4.out _ BB5.out)
        have qR5 := Lib.hid (FR5.out _ BB5.out)
        have qR7 := Lib.hid (FR7.out _ BB5.out)
        have qR8 := Lib.hid (FR8.out _ BB5.out)
        have qR9 := Lib.hid (FR9.out _ BB5.out)
        clear HB KEEP F0 R0 S0 S1 R1 R2 R3 R4 R5 R7 R8 R9 FR0 FS0 FS1 FR1 FR2 FR3 FR4 FR5 FR7 FR8 FR9 G0 G1 G2 G3 G4
        have HB := HBq
        have R0 := qR0
        have S0 := qS0
        have S1 := qS1
        have R1 := qR1
        have R2 := qR2
        have R3 := qR3
        have R4 := qR4
        have R5 := qR5
        have R7 := qR7
        have R8 := qR8
        have R9 := qR9
        have G1 := qG1
        have G2 := qG2
        have G3 := qG3
        clear HBq qR0 qS0 qS1 qR1 qR2 qR3 qR4 qR5 qR7 qR8 qR9 qG1 qG2 qG3
        obtain ⟨g2x, g2y⟩ := cG2 G2.out
        obtain ⟨g1x, g1y⟩ := cG2 G1.out
        go_wp2_with fail
        clear g2x g2y g1x g1y
        refine (SM.out A3 A1 c3 c1 _ HB.out p3 p4 R3.out R1.out).mono ?_
        rintro e w33 ⟨rfl, hb⟩
        have nHB := Lib.hid (belG HB.out hb HB.out.size)
        have nR0 := Lib.hid ((R0.out.below hb (Nat.le_refl _)).more hb.size)
        have nS0 := Lib.hid ((S0.out.below hb (Nat.le_refl _)).more hb.size)
        have nS1 := Lib.hid ((S1.out.below hb (Nat.le_refl _)).more hb.size)
        have nR1 := Lib.hid ((R1.out.below hb (Nat.le_refl _)).more hb.size)
        have nR2 := Lib.hid ((R2.out.below hb (Nat.le_refl _)).more hb.size)
        have nR3 := Lib.hid ((R3.out.below hb (Nat.le_refl _)).more hb.size)
        have nR4 := Lib.hid ((R4.out.below hb (Nat.le_refl _)).more hb.size)
        have nR5 := Lib.hid ((R5.out.below hb (Nat.le_refl _)).more hb.size)
        have nR7 := Lib.hid ((R7.out.below hb (Nat.le_refl _)).more hb.size)
        have nR8 := Lib.hid ((R8.out.below hb (Nat.le_refl _)).more hb.size)
        have nR9 := Lib.hid ((R9.out.below hb (Nat.le_refl _)).more hb.size)
        have nG1 := Lib.hid (oldG G1.out hb (Nat.le_refl _))
        have nG2 := Lib.hid (oldG G2.out hb (Nat.le_refl _))
        have nG3 := Lib.hid (oldG G3.out hb (Nat.le_refl _))
        clear hb
        clear HB R0 S0 S1 R1 R2 R3 R4 R5 R7 R8 R9 G1 G2 G3
        have HB := nHB
        have R0 := nR0
        have S0 := nS0
        have S1 := nS1
        have R1 := nR1
        have R2 := nR2
        have R3 := nR3
        have R4 := nR4
        have R5 := nR5
        have R7 := nR7
        have R8 := nR8
        have R9 := nR9
        have G1 := nG1
        have G2 := nG2
        have G3 := nG3
        clear nHB nR0 nS0 nS1 nR1 nR2 nR3 nR4 nR5 nR7 nR8 nR9 nG1 nG2 nG3
        go_wp2_with fail
        go_ret
        exact ⟨by first | rfl | simp, HB.out⟩
    · have heq : o ≠ no := fun h => heq h.symm
      have hE : setE no y ≠ 0 := by unfold setE; rw [if_neg hfy]; split <;> decide
      rw [show setM (setL l no x) no y = setL l no x from if_neg hfy] at CS2
      rw [show setM l no y = l from if_neg hfy] at CS3
      have SM := Lib.hid (fun (A1 A2 : Option Addr) (c1 c2 : Nat) w (hB : Below W.heap.size W w) (p1 : (setL l no x).length ≤ c1) (p2 : c1 ≤ 9223372036854775807) (h1 : RdF w w.heap.size A1 (setL l no x)) (h2 : RdF w w.heap.size A2 (setL l no x)) => refSameM_any t t A1 A2 (setL l no x) (setL l no x) c1 c2 w p1 p2 h1 h2)
      simp only [and_self, decide_true] at SM
      obtain ⟨E, hE'⟩ : ∃ E, E = setE no y := ⟨_, rfl⟩
      rw [← hE'] at CS2 CS3 hE
      have hEb : (E != 0) = true := by simpa using hE
      have hEc : (E == 0) = false := by simpa using hE
      have hEd : ((E : Int) != (E : Int)) = false := by simp
      clear hE hE'
      rw [(get_set_other l no o x heq).1, (get_set_other l no o x heq).2] at CG4
      rw [(get_drop_other l no o heq).1, (get_drop_other l no o heq).2] at CG5
      have SP := Lib.hid (fun (A1 A2 : Option Addr) (c1 c2 : Nat) w (hB : Below W.heap.size W w) (h1 : Rd w w.heap.size A1 (getL l o)) (h2 : Rd w w.heap.size A2 (getL l o)) => same_any A1 A2 (getL l o) (getL l o) c1 c2 _ _ w h1 h2)
      simp only [decide_true] at SP
      have hoo : ((o : Int) == (no : Int)) = false := by simpa using heq
      clear heq
      generalize getY l o = YO at *
      have hyy : (YO == YO) = true := by simp
      generalize getL l o = LO at *
      generalize LO.length = no1 at *
      clear hRa hRd hup hds hga hgd hF hok hl40 hl450 hR hfx hfy h450 h451 hr hc hz hcm hs hx hxm hw hy hym
      generalize setL l no x = LA at *
      generalize LA.length = na at *
      generalize dropF l no = LD at *
      generalize LD.length = nd at *
      obtain ⟨n, hn⟩ : ∃ n, n = l.length := ⟨_, rfl⟩
      rw [← hn] at CF CR CS1 CS3 CG3 CD2
      rw [← hn]
      clear hn
      generalize x.length = mx at *
      generalize y.length = my at *
      obtain ⟨V0, hV, hb, hg, hg2⟩ := box2 W #[.int .i64 t, .slice A n c, .int .i64 no, .slice B mx cb, .slice C my cc, .int .i64 o] #[.int .i64 t, .slice A n c] 53 24
      have HB := Lib.hid hb
      have G0 := Lib.hid hg2
      have nR0 := Lib.hid ((R0.out.below hb (Nat.le_refl _)).more hb.size)
      have nS0 := Lib.hid ((S0.out.below hb (Nat.le_refl _)).more hb.size)
      have nS1 := Lib.hid ((S1.out.below hb (Nat.le_refl _)).more hb.size)
      have HV := Lib.hid hV
      have y0 : (W.alloc (.cells #[.int .i64 t, .slice A n c, .int .i64 no, .slice B mx cb, .slice C my cc, .int .i64 o] 53)).cell? ⟨W.heap.size, 0, none⟩ = some (.int .i64 t) := (cell_of_row _ _ _ _ _ _ (heap_alloc_new W _)).trans rfl
      have y1 : (W.alloc (.cells #[.int .i64 t, .slice A n c, .int .i64 no, .slice B mx cb, .slice C my cc, .int .i64 o] 53)).cell? ⟨W.heap.size, 1, none⟩ = some (.slice A n c) := (cell_of_row _ _ _ _ _ _ (heap_alloc_new W _)).trans rfl
      have y2 : V0.cell? ⟨W.heap.size, 2, none⟩ = some (.int .i64 no) := (cell_of_row _ _ _ _ _ _ hg).trans rfl
      have y3 : V0.cell? ⟨W.heap.size, 3, none⟩ = some (.slice B mx cb) := (cell_of_row _ _ _ _ _ _ hg).trans rfl
      have y4 : V0.cell? ⟨W.heap.size, 4, none⟩ = some (.slice C my cc) := (cell_of_row _ _ _ _ _ _ hg).trans rfl
      have y5 : V0.cell? ⟨W.heap.size, 5, none⟩ = some (.int .i64 o) := (cell_of_row _ _ _ _ _ _ hg).trans rfl
      rw [hV] at y2 y3 y4 y5
      clear hb hg hg2 hV
      clear R0 S0 S1
      have R0 := nR0
      have S0 := nS0
      have S1 := nS1
      clear nR0 nS0 nS1
      go_enter Tryd.func7, Tryd.ntmps7
      go_wp2_with fail
      clear y0 y1 y2 y3 y4 y5
      rw [← HV.out]
      clear HV
      refine (shown7_any _ (HT.out.below HB.out)).mono ?_
      rintro e w1 ⟨rfl, hb⟩
      have nHB := Lib.hid (belG HB.out hb HB.out.size)
      have nR0 := Lib.hid ((R0.out.below hb (Nat.le_refl _)).more hb.size)
      have nS0 := Lib.hid ((S0.out.below hb (Nat.le_refl _)).more hb.size)
      have nS1 := Lib.hid ((S1.out.below hb (Nat.le_refl _)).more hb.size)
      have nG0 := Lib.hid (oldG G0.out hb (Nat.le_refl _))
      clear hb
      clear HB R0 S0 S1 G0
      have HB := nHB
      have R0 := nR0
      have S0 := nS0
      have S1 := nS1
      have G0 := nG0
      clear nHB nR0 nS0 nS1 nG0
      obtain ⟨g0x, g0y⟩ := cG2 G0.out
      go_wp2_with fail
      clear g0x g0y
      refine (CF.out _ HB.out R0.out).mono ?_
      rintro e w2 ⟨rfl, hb⟩
      have nHB := Lib.hid (belG HB.out hb HB.out.size)
      have nR0 := Lib.hid ((R0.out.below hb (Nat.le_refl _)).more hb.size)
      have nS0 := Lib.hid ((S0.out.below hb (Nat.le_refl _)).more hb.size)
      have nS1 := Lib.hid ((S1.out.below hb (Nat.le_refl _)).more hb.size)
      have nG0 := Lib.hid (oldG G0.out hb (Nat.le_refl _))
      clear hb
      clear HB R0 S0 S1 G0
      have HB := nHB
      have R0 := nR0
      have S0 := nS0
      have S1 := nS1
      have G0 := nG0
      clear nHB nR0 nS0 nS1 nG0
      obtain ⟨g0x, g0y⟩ := cG2 G0.out
      go_wp2_with fail
      clear g0x g0y
      refine (CR.out _ HB.out R0.out).mono ?_
      rintro e w3 ⟨rfl, hb⟩
      have nHB := Lib.hid (belG HB.out hb HB.out.size)
      have nR0 := Lib.hid ((R0.out.below hb (Nat.le_refl _)).more hb.size)
      have nS0 := Lib.hid ((S0.out.below hb (Nat.le_refl _)).more hb.size)
      have nS1 := Lib.hid ((S1.out.below hb (Nat.le_refl _)).more hb.size)
      have nG0 := Lib.hid (oldG G0.out hb (Nat.le_refl _))
      clear hb
      clear HB R0 S0 S1 G0
      have HB := nHB
      have R0 := nR0
      have S0 := nS0
      have S1 := nS1
      have G0 := nG0
      clear nHB nR0 nS0 nS1 nG0
      obtain ⟨g0x, g0y⟩ := cG2 G0.out
      go_wp2_with fail
      clear g0x g0y
      refine (CS1.out _ HB.out R0.out S0.out).mono ?_
      rintro e w4 ⟨⟨A1, c1, rfl, p1, p2, h1⟩, hb⟩
      have nHB := Lib.hid (belG HB.out hb HB.out.size)
      have nR0 := Lib.hid ((R0.out.below hb (Nat.le_refl _)).more hb.size)
      have nS0 := Lib.hid ((S0.out.below hb (Nat.le_refl _)).more hb.size)
      have nS1 := Lib.hid ((S1.out.below hb (Nat.le_refl _)).more hb.size)
      have nG0 := Lib.hid (oldG G0.out hb (Nat.le_refl _))
      clear hb
      clear HB R0 S0 S1 G0
      have HB := nHB
      have R0 := nR0
      have S0 := nS0
      have S1 := nS1
      have G0 := nG0
      clear nHB nR0 nS0 nS1 nG0
      have R1 := Lib.hid h1
      clear h1
      obtain ⟨V4, hV4⟩ : ∃ V, V = w4.alloc (.cells #[.int .i64 t, .slice A1 na c1] 24) := ⟨_, rfl⟩
      have ha := (Below.refl w4.heap.size w4).alloc (Nat.le_refl _) (.cells #[.int .i64 t, .slice A1 na c1] 24)
      have hg := heap_alloc_new w4 (.cells #[.int .i64 t, .slice A1 na c1] 24)
      have nHB := Lib.hid (HB.out.alloc HB.out.size (.cells #[.int .i64 t, .slice A1 na c1] 24))
      rw [← hV4] at ha hg nHB
      have nR0 := Lib.hid ((R0.out.below ha (Nat.le_refl _)).more ha.size)
      have nS0 := Lib.hid ((S0.out.below ha (Nat.le_refl _)).more ha.size)
      have nS1 := Lib.hid ((S1.out.below ha (Nat.le_refl _)).more ha.size)
      have nR1 := Lib.hid ((R1.out.below ha (Nat.le_refl _)).more ha.size)
      have nG0 := Lib.hid (oldG G0.out ha (Nat.le_refl _))
      obtain ⟨g1, hg1⟩ : ∃ g, g = w4.heap.size := ⟨_, rfl⟩
      rw [← hg1] at hg
      have HXG1 := Lib.hid hg1
      have G1 := Lib.hid hg
      have HV := Lib.hid hV4
      clear ha hg hV4 hg1
      clear HB R0 S0 S1 R1 G0
      have HB := nHB
      have R0 := nR0
      have S0 := nS0
      have S1 := nS1
      have R1 := nR1
      have G0 := nG0
      clear nHB nR0 nS0 nS1 nR1 nG0
      obtain ⟨g1x, g1y⟩ := cG2 G1.out
      rw [HV.out] at g1x g1y
      rw [HXG1.out] at g1x g1y
      go_wp2_with fail
      clear g1x g1y
      rw [← HV.out]
      (try rw [← HXG1.out])
      clear HV HXG1
      refine (CG1.out A1 c1 _ HB.out p1 p2 R1.out).mono ?_
      rintro e w5 ⟨⟨A2, c2, rfl, -, -, h2⟩, hb⟩
      have nHB := Lib.hid (belG HB.out hb HB.out.size)
      have nR0 := Lib.hid ((R0.out.below hb (Nat.le_refl _)).more hb.size)
      have nS0 := Lib.hid ((S0.out.below hb (Nat.le_refl _)).more hb.size)
      have nS1 := Lib.hid ((S1.out.below hb (Nat.le_refl _)).more hb.size)
      have nR1 := Lib.hid ((R1.out.below hb (Nat.le_refl _)).more hb.size)
      have nG0 := Lib.hid (oldG G0.out hb (Nat.le_refl _))
      have nG1 := Lib.hid (oldG G1.out hb (Nat.le_refl _))
      clear hb
      clear HB R0 S0 S1 R1 G0 G1
      have HB := nHB
      have R0 := nR0
      have S0 := nS0
      have S1 := nS1
      have R1 := nR1
      have G0 := nG0
      have G1 := nG1
      clear nHB nR0 nS0 nS1 nR1 nG0 nG1
      have R2 := Lib.hid h2
      clear h2
      obtain ⟨g1x, g1y⟩ := cG2 G1.out
      go_wp2_with fail
      clear g1x g1y
      refine (CS2.out A1 c1 _ HB.out p1 p2 R1.out S1.out).mono ?_
      rintro e w6 ⟨⟨A3, c3, rfl, p3, p4, h3⟩, hb⟩
      have nHB := Lib.hid (belG HB.out hb HB.out.size)
      have nR0 := Lib.hid ((R0.out.below hb (Nat.le_refl _)).more hb.size)
      have nS0 := Lib.hid ((S0.out.below hb (Nat.le_refl _)).more hb.size)
      have nS1 := Lib.hid ((S1.out.below hb (Nat.le_refl _)).more hb.size)
      have nR1 := Lib.hid ((R1.out.below hb (Nat.le_refl _)).more hb.size)
      have nR2 := Lib.hid ((R2.out.below hb (Nat.le_refl _)).more hb.size)
      have nG0 := Lib.hid (oldG G0.out hb (Nat.le_refl _))
      have nG1 := Lib.hid (oldG G1.out hb (Nat.le_refl _))
      clear hb
      clear HB R0 S0 S1 R1 R2 G0 G1
      have HB := nHB
      have R0 := nR0
      have S0 := nS0
      have S1 := nS1
      have R1 := nR1
      have R2 := nR2
      have G0 := nG0
      have G1 := nG1
      clear nHB nR0 nS0 nS1 nR1 nR2 nG0 nG1
      have R3 := Lib.hid h3
      clear h3
      obtain ⟨V6, hV6⟩ : ∃ V, V = w6.alloc (.cells #[.int .i64 t, .slice A3 na c3] 24) := ⟨_, rfl⟩
      have ha := (Below.refl w6.heap.size w6).alloc (Nat.le_refl _) (.cells #[.int .i64 t, .slice A3 na c3] 24)
      have hg := heap_alloc_new w6 (.cells #[.int .i64 t, .slice A3 na c3] 24)
      have nHB := Lib.hid (HB.out.alloc HB.out.size (.cells #[.int .i64 t, .slice A3 na c3] 24))
      rw [← hV6] at ha hg nHB
      have nR0 := Lib.hid ((R0.out.below ha (Nat.le_refl _)).more ha.size)
      have nS0 := Lib.hid ((S0.out.below ha (Nat.le_refl _)).more ha.size)
      have nS1 := Lib.hid ((S1.out.below ha (Nat.le_refl _)).more ha.size)
      have nR1 := Lib.hid ((R1.out.below ha (Nat.le_refl _)).more ha.size)
      have nR2 := Lib.hid ((R2.out.below ha (Nat.le_refl _)).more ha.size)
      have nR3 := Lib.hid ((R3.out.below ha (Nat.le_refl _)).more ha.size)
      have nG0 := Lib.hid (oldG G0.out ha (Nat.le_refl _))
      have nG1 := Lib.hid (oldG G1.out ha (Nat.le_refl _))
      obtain ⟨g2, hg2⟩ : ∃ g, g = w6.heap.size := ⟨_, rfl⟩
      rw [← hg2] at hg
      have HXG2 := Lib.hid hg2
      have G2 := Lib.hid hg
      have HV := Lib.hid hV6
      clear ha hg hV6 hg2
      clear HB R0 S0 S1 R1 R2 R3 G0 G1
      have HB := nHB
      have R0 := nR0
      have S0 := nS0
      have S1 := nS1
      have R1 := nR1
      have R2 := nR2
      have R3 := nR3
      have G0 := nG0
      have G1 := nG1
      clear nHB nR0 nS0 nS1 nR1 nR2 nR3 nG0 nG1
      obtain ⟨g0x, g0y⟩ := cG2 G0.out
      rw [HV.out] at g0x g0y
      go_wp2_with fail
      clear g0x g0y
      rw [← HV.out]
      (try rw [← HXG2.out])
      clear HV HXG2
      refine (CS3.out _ HB.out R0.out S1.out).mono ?_
      rintro e w7 ⟨⟨A4, c4, rfl, p5, p6, h4⟩, hb⟩
      have nHB := Lib.hid (belG HB.out hb HB.out.size)
      have nR0 := Lib.hid ((R0.out.below hb (Nat.le_refl _)).more hb.size)
      have nS0 := Lib.hid ((S0.out.below hb (Nat.le_refl _)).more hb.size)
      have nS1 := Lib.hid ((S1.out.below hb (Nat.le_refl _)).more hb.size)
      have nR1 := Lib.hid ((R1.out.below hb (Nat.le_refl _)).more hb.size)
      have nR2 := Lib.hid ((R2.out.below hb (Nat.le_refl _)).more hb.size)
      have nR3 := Lib.hid ((R3.out.below hb (Nat.le_refl _)).more hb.size)
      have nG0 := Lib.hid (oldG G0.out hb (Nat.le_refl _))
      have nG1 := Lib.hid (oldG G1.out hb (Nat.le_refl _))
      have nG2 := Lib.hid (oldG G2.out hb (Nat.le_refl _))
      clear hb
      clear HB R0 S0 S1 R1 R2 R3 G0 G1 G2
      have HB := nHB
      have R0 := nR0
      have S0 := nS0
      have S1 := nS1
      have R1 := nR1
      have R2 := nR2
      have R3 := nR3
      have G0 := nG0
      have G1 := nG1
      have G2 := nG2
      clear nHB nR0 nS0 nS1 nR1 nR2 nR3 nG0 nG1 nG2
      have R4 := Lib.hid h4
      clear h4
      obtain ⟨V7, hV7⟩ : ∃ V, V = w7.alloc (.cells #[.int .i64 t, .slice A4 n c4] 24) := ⟨_, rfl⟩
      have ha := (Below.refl w7.heap.size w7).alloc (Nat.le_refl _) (.cells #[.int .i64 t, .slice A4 n c4] 24)
      have hg := heap_alloc_new w7 (.cells #[.int .i64 t, .slice A4 n c4] 24)
      have nHB := Lib.hid (HB.out.alloc HB.out.size (.cells #[.int .i64 t, .slice A4 n c4] 24))
      rw [← hV7] at ha hg nHB
      have nR0 := Lib.hid ((R0.out.below ha (Nat.le_refl _)).more ha.size)
      have nS0 := Lib.hid ((S0.out.below ha (Nat.le_refl _)).more ha.size)
      have nS1 := Lib.hid ((S1.out.below ha (Nat.le_refl _)).more ha.size)
      have nR1 := Lib.hid ((R1.out.below ha (Nat.le_refl _)).more ha.size)
      have nR2 := Lib.hid ((R2.out.below ha (Nat.le_refl _)).more ha.size)
      have nR3 := Lib.hid ((R3.out.below ha (Nat.le_refl _)).more ha.size)
      have nR4 := Lib.hid ((R4.out.below ha (Nat.le_refl _)).more ha.size)
      have nG0 := Lib.hid (oldG G0.out ha (Nat.le_refl _))
      have nG1 := Lib.hid (oldG G1.out ha (Nat.le_refl _))
      have nG2 := Lib.hid (oldG G2.out ha (Nat.le_refl _))
      obtain ⟨g3, hg3⟩ : ∃ g, g = w7.heap.size := ⟨_, rfl⟩
      rw [← hg3] at hg
      have HXG3 := Lib.hid hg3
      have G3 := Lib.hid hg
      have HV := Lib.hid hV7
      clear ha hg hV7 hg3
      clear HB R0 S0 S1 R1 R2 R3 R4 G0 G1 G2
      have HB := nHB
      have R0 := nR0
      have S0 := nS0
      have S1 := nS1
      have R1 := nR1
      have R2 := nR2
      have R3 := nR3
      have R4 := nR4
      have G0 := nG0
      have G1 := nG1
      have G2 := nG2
      clear nHB nR0 nS0 nS1 nR1 nR2 nR3 nR4 nG0 nG1 nG2
      obtain ⟨g1x, g1y⟩ := cG2 G1.out
      rw [HV.out] at g1x g1y
      go_wp2_with fail
      clear g1x g1y
      rw [← HV.out]
      (try rw [← HXG3.out])
      clear HV HXG3
      refine (CD1.out A1 c1 _ HB.out p1 p2 R1.out).mono ?_
      rintro e w8 ⟨⟨A5, c5, rfl, p7, p8, h5⟩, hb⟩
      have nHB := Lib.hid (belG HB.out hb HB.out.size)
      have nR0 := Lib.hid ((R0.out.below hb (Nat.le_refl _)).more hb.size)
      have nS0 := Lib.hid ((S0.out.below hb (Nat.le_refl _)).more hb.size)
      have nS1 := Lib.hid ((S1.out.below hb (Nat.le_refl _)).more hb.size)
      have nR1 := Lib.hid ((R1.out.below hb (Nat.le_refl _)).more hb.size)
      have nR2 := Lib.hid ((R2.out.below hb (Nat.le_refl _)).more hb.size)
      have nR3 := Lib.hid ((R3.out.below hb (Nat.le_refl _)).more hb.size)
      have nR4 := Lib.hid ((R4.out.below hb (Nat.le_refl _)).more hb.size)
      have nG0 := Lib.hid (oldG G0.out hb (Nat.le_refl _))
      have nG1 := Lib.hid (oldG G1.out hb (Nat.le_refl _))
      have nG2 := Lib.hid (oldG G2.out hb (Nat.le_refl _))
      have nG3 := Lib.hid (oldG G3.out hb (Nat.le_refl _))
      clear hb
      clear HB R0 S0 S1 R1 R2 R3 R4 G0 G1 G2 G3
      have HB := nHB
      have R0 := nR0
      have S0 := nS0
      have S1 := nS1
      have R1 := nR1
      have R2 := nR2
      have R3 := nR3
      have R4 := nR4
      have G0 := nG0
      have G1 := nG1
      have G2 := nG2
      have G3 := nG3
      clear nHB nR0 nS0 nS1 nR1 nR2 nR3 nR4 nG0 nG1 nG2 nG3
      have R5 := Lib.hid h5
      clear h5
      obtain ⟨V8, hV8⟩ : ∃ V, V = w8.alloc (.cells #[.int .i64 t, .slice A5 nd c5] 24) := ⟨_, rfl⟩
      have ha := (Below.refl w8.heap.size w8).alloc (Nat.le_refl _) (.cells #[.int .i64 t, .slice A5 nd c5] 24)
      have hg := heap_alloc_new w8 (.cells #[.int .i64 t, .slice A5 nd c5] 24)
      have nHB := Lib.hid (HB.out.alloc HB.out.size (.cells #[.int .i64 t, .slice A5 nd c5] 24))
      rw [← hV8] at ha hg nHB
      have nR0 := Lib.hid ((R0.out.below ha (Nat.le_refl _)).more ha.size)
      have nS0 := Lib.hid ((S0.out.below ha (Nat.le_refl _)).more ha.size)
      have nS1 := Lib.hid ((S1.out.below ha (Nat.le_refl _)).more ha.size)
      have nR1 := Lib.hid ((R1.out.below ha (Nat.le_refl _)).more ha.size)
      have nR2 := Lib.hid ((R2.out.below ha (Nat.le_refl _)).more ha.size)
      have nR3 := Lib.hid ((R3.out.below ha (Nat.le_refl _)).more ha.size)
      have nR4 := Lib.hid ((R4.out.below ha (Nat.le_refl _)).more ha.size)
      have nR5 := Lib.hid ((R5.out.below ha (Nat.le_refl _)).more ha.size)
      have nG0 := Lib.hid (oldG G0.out ha (Nat.le_refl _))
      have nG1 := Lib.hid (oldG G1.out ha (Nat.le_refl _))
      have nG2 := Lib.hid (oldG G2.out ha (Nat.le_refl _))
      have nG3 := Lib.hid (oldG G3.out ha (Nat.le_refl _))
      obtain ⟨g4, hg4⟩ : ∃ g, g = w8.heap.size := ⟨_, rfl⟩
      rw [← hg4] at hg
      have HXG4 := Lib.hid hg4
      have G4 := Lib.hid hg
      have HV := Lib.hid hV8
      clear ha hg hV8 hg4
      clear HB R0 S0 S1 R1 R2 R3 R4 R5 G0 G1 G2 G3
      have HB := nHB
      have R0 := nR0
      have S0 := nS0
      have S1 := nS1
      have R1 := nR1
      have R2 := nR2
      have R3 := nR3
      have R4 := nR4
      have R5 := nR5
      have G0 := nG0
      have G1 := nG1
      have G2 := nG2
      have G3 := nG3
      clear nHB nR0 nS0 nS1 nR1 nR2 nR3 nR4 nR5 nG0 nG1 nG2 nG3
      obtain ⟨g4x, g4y⟩ := cG2 G4.out
      rw [HV.out] at g4x g4y
      rw [HXG4.out] at g4x g4y
      go_wp2_with fail
      clear g4x g4y
      rw [← HV.out]
      (try rw [← HXG4.out])
      clear HV HXG4
      refine (CG2.out A5 c5 _ HB.out p7 p8 R5.out).mono ?_
      rintro e w9 ⟨⟨A6, c6, rfl, -, -, -⟩, hb⟩
      have nHB := Lib.hid (belG HB.out hb HB.out.size)
      have nR0 := Lib.hid ((R0.out.below hb (Nat.le_refl _)).more hb.size)
      have nS0 := Lib.hid ((S0.out.below hb (Nat.le_refl _)).more hb.size)
      have nS1 := Lib.hid ((S1.out.below hb (Nat.le_refl _)).more hb.size)
      have nR1 := Lib.hid ((R1.out.below hb (Nat.le_refl _)).more hb.size)
      have nR2 := Lib.hid ((R2.out.below hb (Nat.le_refl _)).more hb.size)
      have nR3 := Lib.hid ((R3.out.below hb (Nat.le_refl _)).more hb.size)
      have nR4 := Lib.hid ((R4.out.below hb (Nat.le_refl _)).more hb.size)
      have nR5 := Lib.hid ((R5.out.below hb (Nat.le_refl _)).more hb.size)
      have nG0 := Lib.hid (oldG G0.out hb (Nat.le_refl _))
      have nG1 := Lib.hid (oldG G1.out hb (Nat.le_refl _))
      have nG2 := Lib.hid (oldG G2.out hb (Nat.le_refl _))
      have nG3 := Lib.hid (oldG G3.out hb (Nat.le_refl _))
      have nG4 := Lib.hid (oldG G4.out hb (Nat.le_refl _))
      clear hb
      clear HB R0 S0 S1 R1 R2 R3 R4 R5 G0 G1 G2 G3 G4
      have HB := nHB
      have R0 := nR0
      have S0 := nS0
      have S1 := nS1
      have R1 := nR1
      have R2 := nR2
      have R3 := nR3
      have R4 := nR4
      have R5 := nR5
      have G0 := nG0
      have G1 := nG1
      have G2 := nG2
      have G3 := nG3
      have G4 := nG4
      clear nHB nR0 nS0 nS1 nR1 nR2 nR3 nR4 nR5 nG0 nG1 nG2 nG3 nG4
      obtain ⟨g0x, g0y⟩ := cG2 G0.out
      go_wp2_with fail
      clear g0x g0y
      refine (CG3.out _ HB.out R0.out).mono ?_
      rintro e w10 ⟨⟨A7, c7, rfl, -, -, h7⟩, hb⟩
      have nHB := Lib.hid (belG HB.out hb HB.out.size)
      have nR0 := Lib.hid ((R0.out.below hb (Nat.le_refl _)).more hb.size)
      have nS0 := Lib.hid ((S0.out.below hb (Nat.le_refl _)).more hb.size)
      have nS1 := Lib.hid ((S1.out.below hb (Nat.le_refl _)).more hb.size)
      have nR1 := Lib.hid ((R1.out.below hb (Nat.le_refl _)).more hb.size)
      have nR2 := Lib.hid ((R2.out.below hb (Nat.le_refl _)).more hb.size)
      have nR3 := Lib.hid ((R3.out.below hb (Nat.le_refl _)).more hb.size)
      have nR4 := Lib.hid ((R4.out.below hb (Nat.le_refl _)).more hb.size)
      have nR5 := Lib.hid ((R5.out.below hb (Nat.le_refl _)).more hb.size)
      have nG0 := Lib.hid (oldG G0.out hb (Nat.le_refl _))
      have nG1 := Lib.hid (oldG G1.out hb (Nat.le_refl _))
      have nG2 := Lib.hid (oldG G2.out hb (Nat.le_refl _))
      have nG3 := Lib.hid (oldG G3.out hb (Nat.le_refl _))
      have nG4 := Lib.hid (oldG G4.out hb (Nat.le_refl _))
      clear hb
      clear HB R0 S0 S1 R1 R2 R3 R4 R5 G0 G1 G2 G3 G4
      have HB := nHB
      have R0 := nR0
      have S0 := nS0
      have S1 := nS1
      have R1 := nR1
      have R2 := nR2
      have R3 := nR3
      have R4 := nR4
      have R5 := nR5
      have G0 := nG0
      have G1 := nG1
      have G2 := nG2
      have G3 := nG3
      have G4 := nG4
      clear nHB nR0 nS0 nS1 nR1 nR2 nR3 nR4 nR5 nG0 nG1 nG2 nG3 nG4
      have R7 := Lib.hid h7
      clear h7
      obtain ⟨g1x, g1y⟩ := cG2 G1.out
      go_wp2_with fail
      clear g1x g1y
      refine (CG4.out A1 c1 _ HB.out p1 p2 R1.out).mono ?_
      rintro e w11 ⟨⟨A8, c8, rfl, -, -, h8⟩, hb⟩
      have nHB := Lib.hid (belG HB.out hb HB.out.size)
      have nR0 := Lib.hid ((R0.out.below hb (Nat.le_refl _)).more hb.size)
      have nS0 := Lib.hid ((S0.out.below hb (Nat.le_refl _)).more hb.size)
      have nS1 := Lib.hid ((S1.out.below hb (Nat.le_refl _)).more hb.size)
      have nR1 := Lib.hid ((R1.out.below hb (Nat.le_refl _)).more hb.size)
      have nR2 := Lib.hid ((R2.out.below hb (Nat.le_refl _)).more hb.size)
      have nR3 := Lib.hid ((R3.out.below hb (Nat.le_refl _)).more hb.size)
      have nR4 := Lib.hid ((R4.out.below hb (Nat.le_refl _)).more hb.size)
      have nR5 := Lib.hid ((R5.out.below hb (Nat.le_refl _)).more hb.size)
      have nR7 := Lib.hid ((R7.out.below hb (Nat.le_refl _)).more hb.size)
      have nG0 := Lib.hid (oldG G0.out hb (Nat.le_refl _))
      have nG1 := Lib.hid (oldG G1.out hb (Nat.le_refl _))
      have nG2 := Lib.hid (oldG G2.out hb (Nat.le_refl _))
      have nG3 := Lib.hid (oldG G3.out hb (Nat.le_refl _))
      have nG4 := Lib.hid (oldG G4.out hb (Nat.le_refl _))
      clear hb
      clear HB R0 S0 S1 R1 R2 R3 R4 R5 R7 G0 G1 G2 G3 G4
      have HB := nHB
      have R0 := nR0
      have S0 := nS0
      have S1 := nS1
      have R1 := nR1
      have R2 := nR2
      have R3 := nR3
      have R4 := nR4
      have R5 := nR5
      have R7 := nR7
      have G0 := nG0
      have G1 := nG1
      have G2 := nG2
      have G3 := nG3
      have G4 := nG4
      clear nHB nR0 nS0 nS1 nR1 nR2 nR3 nR4 nR5 nR7 nG0 nG1 nG2 nG3 nG4
      have R8 := Lib.hid h8
      clear h8
      obtain ⟨g4x, g4y⟩ := cG2 G4.out
      go_wp2_with fail
      clear g4x g4y
      refine (CG5.out A5 c5 _ HB.out p7 p8 R5.out).mono ?_
      rintro e w12 ⟨⟨A9, c9, rfl, -, -, h9⟩, hb⟩
      have nHB := Lib.hid (belG HB.out hb HB.out.size)
      have nR0 := Lib.hid ((R0.out.below hb (Nat.le_refl _)).more hb.size)
      have nS0 := Lib.hid ((S0.out.below hb (Nat.le_refl _)).more hb.size)
      have nS1 := Lib.hid ((S1.out.below hb (Nat.le_refl _)).more hb.size)
      have nR1 := Lib.hid ((R1.out.below hb (Nat.le_refl _)).more hb.size)
      have nR2 := Lib.hid ((R2.out.below hb (Nat.le_refl _)).more hb.size)
      have nR3 := Lib.hid ((R3.out.below hb (Nat.le_refl _)).more hb.size)
      have nR4 := Lib.hid ((R4.out.below hb (Nat.le_refl _)).more hb.size)
      have nR5 := Lib.hid ((R5.out.below hb (Nat.le_refl _)).more hb.size)
      have nR7 := Lib.hid ((R7.out.below hb (Nat.le_refl _)).more hb.size)
      have nR8 := Lib.hid ((R8.out.below hb (Nat.le_refl _)).more hb.size)
      have nG0 := Lib.hid (oldG G0.out hb (Nat.le_refl _))
      have nG1 := Lib.hid (oldG G1.out hb (Nat.le_refl _))
      have nG2 := Lib.hid (oldG G2.out hb (Nat.le_refl _))
      have nG3 := Lib.hid (oldG G3.out hb (Nat.le_refl _))
      have nG4 := Lib.hid (oldG G4.out hb (Nat.le_refl _))
      clear hb
      clear HB R0 S0 S1 R1 R2 R3 R4 R5 R7 R8 G0 G1 G2 G3 G4
      have HB := nHB
      have R0 := nR0
      have S0 := nS0
      have S1 := nS1
      have R1 := nR1
      have R2 := nR2
      have R3 := nR3
      have R4 := nR4
      have R5 := nR5
      have R7 := nR7
      have R8 := nR8
      have G0 := nG0
      have G1 := nG1
      have G2 := nG2
      have G3 := nG3
      have G4 := nG4
      clear nHB nR0 nS0 nS1 nR1 nR2 nR3 nR4 nR5 nR7 nR8 nG0 nG1 nG2 nG3 nG4
      have R9 := Lib.hid h9
      clear h9
      have BB0 := Lib.hid ((Below.refl w12.heap.size w12).drew)
      have F0 := Lib.hid (fun w (h : Below w12.heap.size w12 w) => belG HB.out h HB.out.size)
      have FR0 := Lib.hid (fun w (h : Below w12.heap.size w12 w) => (R0.out.below h (Nat.le_refl _)).more h.size)
      have FS0 := Lib.hid (fun w (h : Below w12.heap.size w12 w) => (S0.out.below h (Nat.le_refl _)).more h.size)
      have FS1 := Lib.hid (fun w (h : Below w12.heap.size w12 w) => (S1.out.below h (Nat.le_refl _)).more h.size)
      have FR1 := Lib.hid (fun w (h : Below w12.heap.size w12 w) => (R1.out.below h (Nat.le_refl _)).more h.size)
      have FR2 := Lib.hid (fun w (h : Below w12.heap.size w12 w) => (R2.out.below h (Nat.le_refl _)).more h.size)
      have FR3 := Lib.hid (fun w (h : Below w12.heap.size w12 w) => (R3.out.below h (Nat.le_refl _)).more h.size)
      have FR4 := Lib.hid (fun w (h : Below w12.heap.size w12 w) => (R4.out.below h (Nat.le_refl _)).more h.size)
      have FR5 := Lib.hid (fun w (h : Below w12.heap.size w12 w) => (R5.out.below h (Nat.le_refl _)).more h.size)
      have FR7 := Lib.hid (fun w (h : Below w12.heap.size w12 w) => (R7.out.below h (Nat.le_refl _)).more h.size)
      have FR8 := Lib.hid (fun w (h : Below w12.heap.size w12 w) => (R8.out.below h (Nat.le_refl _)).more h.size)
      have FR9 := Lib.hid (fun w (h : Below w12.heap.size w12 w) => (R9.out.below h (Nat.le_refl _)).more h.size)
      have KEEP := Lib.hid (fun w' (h : Below w12.heap.size w12 w') => (show Below w12.heap.size w12 w' ∧ w'.cell? ⟨W.heap.size + 1, 0, none⟩ = some (.int .i64 t) ∧ w'.cell? ⟨W.heap.size + 1, 1, none⟩ = some (.slice A n c) ∧ w'.cell? ⟨g1, 0, none⟩ = some (.int .i64 t) ∧ w'.cell? ⟨g1, 1, none⟩ = some (.slice A1 na c1) ∧ w'.cell? ⟨g4, 0, none⟩ = some (.int .i64 t) ∧ w'.cell? ⟨g4, 1, none⟩ = some (.slice A5 nd c5) from by
        obtain ⟨z0, u0⟩ := cG2 (oldG G0.out h (Nat.le_refl _))
        obtain ⟨z1, u1⟩ := cG2 (oldG G1.out h (Nat.le_refl _))
        obtain ⟨z2, u2⟩ := cG2 (oldG G4.out h (Nat.le_refl _))
        exact ⟨h, z0, u0, z1, u1, z2, u2⟩))
      go_wp2_with fail
      go_region_held3 (fun w' => Below w12.heap.size w12 w' ∧ w'.cell? ⟨W.heap.size + 1, 0, none⟩ = some (.int .i64 t) ∧ w'.cell? ⟨W.heap.size + 1, 1, none⟩ = some (.slice A n c) ∧ w'.cell? ⟨g1, 0, none⟩ = some (.int .i64 t) ∧ w'.cell? ⟨g1, 1, none⟩ = some (.slice A1 na c1) ∧ w'.cell? ⟨g4, 0, none⟩ = some (.int .i64 t) ∧ w'.cell? ⟨g4, 1, none⟩ = some (.slice A5 nd c5))
        (first | with_reducible exact KEEP.out _ BB0.out | with_reducible exact KEEP.out _ BB2.out | with_reducible exact KEEP.out _ BB3.out | with_reducible exact KEEP.out _ BB4.out | with_reducible exact KEEP.out _ BB5.out)
        (first
        | (go_at_call 17; (with_reducible refine (SX.out A2 B c2 cb _ (F0.out _ BB0.out) (FR2.out _ BB0.out) (FS0.out _ BB0.out)).mono ?_); rintro e wz0 ⟨rfl, rfl⟩)
        | (go_at_call 19; (with_reducible refine (CRa.out A1 c1 _ (F0.out _ BB0.out) p1 p2 (FR1.out _ BB0.out)).mono ?_); rintro e wz1 ⟨rfl, hb⟩; have BB2 := Lib.hid (belG BB0.out hb BB0.out.size); clear hb)
        | (go_at_call 19; (with_reducible refine (CRd.out A5 c5 _ (F0.out _ BB2.out) p7 p8 (FR5.out _ BB2.out)).mono ?_); rintro e wz2 ⟨rfl, hb⟩; have BB3 := Lib.hid (belG BB2.out hb BB2.out.size); clear hb)
        | (go_at_call 32; (with_reducible refine (CD2.out _ (F0.out _ BB3.out) (FR0.out _ BB3.out)).mono ?_); rintro e wz3 ⟨⟨A10, c10, rfl, p9, p10, h10⟩, hb⟩; have BB4 := Lib.hid (belG BB3.out hb BB3.out.size); have R10 := Lib.hid h10; clear h10; clear hb)
        | (go_at_call 21; (with_reducible refine (SD.out A5 A10 c5 c10 _ (F0.out _ BB4.out) p7 p8 (FR5.out _ BB4.out) R10.out).mono ?_); rintro e wz4 ⟨rfl, hb⟩; have BB5 := Lib.hid (belG BB4.out hb BB4.out.size); have nR10 := Lib.hid ((R10.out.below hb (Nat.le_refl _)).more hb.size); clear R10; have R10 := nR10; clear nR10; clear hb))
      all_goals
        have HBq := Lib.hid (F0.out _ BB5.out)
        have qG1 := Lib.hid (oldG G1.out BB5.out (Nat.le_refl _))
        have qG2 := Lib.hid (oldG G2.out BB5.out (Nat.le_refl _))
        have qG3 := Lib.hid (oldG G3.out BB5.out (Nat.le_refl _))
        have qR0 := Lib.hid (FR0.out _ BB5.out)
        have qS0 := Lib.hid (FS0.out _ BB5.out)
        have qS1 := Lib.hid (FS1.out _ BB5.out)
        have qR1 := Lib.hid (FR1.out _ BB5.out)
        have qR2 := Lib.hid (FR2.out _ BB5.out)
        have qR3 := Lib.hid (FR3.out _ BB5.out)
        have qR4 := Lib.hid (FR4.out _ BB5.out)
        have qR5 := Lib.hid (FR5.out _ BB5.out)
        have qR7 := Lib.hid (FR7.out _ BB5.out)
        have qR8 := Lib.hid (FR8.out _ BB5.out)
        have qR9 := Lib.hid (FR9.out _ BB5.out)
        clear HB KEEP F0 R0 S0 S1 R1 R2 R3 R4 R5 R7 R8 R9 FR0 FS0 FS1 FR1 FR2 FR3 FR4 FR5 FR7 FR8 FR9 G0 G1 G2 G3 G4
        have HB := HBq
        have R0 := qR0
        have S0 := qS0
        have S1 := qS1
        have R1 := qR1
        have R2 := qR2
        have R3 := qR3
        have R4 := qR4
        have R5 := qR5
        have R7 := qR7
        have R8 := qR8
        have R9 := qR9
        have G1 := qG1
        have G2 := qG2
        have G3 := qG3
        clear HBq qR0 qS0 qS1 qR1 qR2 qR3 qR4 qR5 qR7 qR8 qR9 qG1 qG2 qG3
        obtain ⟨g2x, g2y⟩ := cG2 G2.out
        obtain ⟨g1x, g1y⟩ := cG2 G1.out
        go_wp2_with fail
        clear g2x g2y g1x g1y
        refine (SM.out A3 A1 c3 c1 _ HB.out p3 p4 R3.out R1.out).mono ?_
        rintro e w33 ⟨rfl, hb⟩
        have nHB := Lib.hid (belG HB.out hb HB.out.size)
        have nR0 := Lib.hid ((R0.out.below hb (Nat.le_refl _)).more hb.size)
        have nS0 := Lib.hid ((S0.out.below hb (Nat.le_refl _)).more hb.size)
        have nS1 := Lib.hid ((S1.out.below hb (Nat.le_refl _)).more hb.size)
        have nR1 := Lib.hid ((R1.out.below hb (Nat.le_refl _)).more hb.size)
        have nR2 := Lib.hid ((R2.out.below hb (Nat.le_refl _)).more hb.size)
        have nR3 := Lib.hid ((R3.out.below hb (Nat.le_refl _)).more hb.size)
        have nR4 := Lib.hid ((R4.out.below hb (Nat.le_refl _)).more hb.size)
        have nR5 := Lib.hid ((R5.out.below hb (Nat.le_refl _)).more hb.size)
        have nR7 := Lib.hid ((R7.out.below hb (Nat.le_refl _)).more hb.size)
        have nR8 := Lib.hid ((R8.out.below hb (Nat.le_refl _)).more hb.size)
        have nR9 := Lib.hid ((R9.out.below hb (Nat.le_refl _)).more hb.size)
        have nG1 := Lib.hid (oldG G1.out hb (Nat.le_refl _))
        have nG2 := Lib.hid (oldG G2.out hb (Nat.le_refl _))
        have nG3 := Lib.hid (oldG G3.out hb (Nat.le_refl _))
        clear hb
        clear HB R0 S0 S1 R1 R2 R3 R4 R5 R7 R8 R9 G1 G2 G3
        have HB := nHB
        have R0 := nR0
        have S0 := nS0
        have S1 := nS1
        have R1 := nR1
        have R2 := nR2
        have R3 := nR3
        have R4 := nR4
        have R5 := nR5
        have R7 := nR7
        have R8 := nR8
        have R9 := nR9
        have G1 := nG1
        have G2 := nG2
        have G3 := nG3
        clear nHB nR0 nS0 nS1 nR1 nR2 nR3 nR4 nR5 nR7 nR8 nR9 nG1 nG2 nG3
        go_wp2_with fail
        refine (SP.out A7 A8 c7 c8 _ HB.out R7.out R8.out).mono ?_
        rintro e w34 ⟨rfl, rfl⟩
        go_wp2_with fail
        refine (SP.out A7 A9 c7 c9 _ HB.out R7.out R9.out).mono ?_
        rintro e w35 ⟨rfl, rfl⟩
        go_wp2_with fail
        go_ret
        exact ⟨by first | rfl | simp, HB.out⟩
end Go.Proofs.YtpfjecjfooefoaaDoor
