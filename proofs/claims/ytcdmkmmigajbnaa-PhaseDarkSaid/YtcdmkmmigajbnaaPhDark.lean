
/- PhaseDark's walk. -/
import Derived.Test.YtcdmkmmigajbnaaJ07
namespace Go.Proofs.Ytcdmkmmigajbnaa
open Go.RowKit

set_option maxRecDepth 100000 in
set_option maxHeartbeats 4000000 in
theorem phaseDark_walk (p v : Int) (W : World) (hp : B64p p) (hv : B64p v) (hT : Tph W) :
    Calls Try.prog 6 #[.int .i64 p, .int .i64 v] W fun e W' => e = .returned (.bool true) ∧ Below W.heap.size W W' := by
  have HT := Lib.hid hT
  clear hT
  have EN := Lib.hid (fun w hT => pNext_any p v w hT hp hv)
  have L0 := Lib.hid (fun w hT => pLinked_any 0 w hT (by unfold B64p; decide))
  have L7 := Lib.hid (fun w hT => pLinked_any 7 w hT (by unfold B64p; decide))
  have L8 := Lib.hid (fun w hT => pLinked_any 8 w hT (by unfold B64p; decide))
  have L1 := Lib.hid (fun w hT => pLinked_any 1 w hT (by unfold B64p; decide))
  rw [show linkedP 0 = false from rfl] at L0
  rw [show linkedP 7 = false from rfl] at L7
  rw [show linkedP 8 = false from rfl] at L8
  rw [show linkedP 1 = false from rfl] at L1
  have EG := Lib.hid (fun w hT => pGate_any p w hT hp)
  have EL := Lib.hid (fun w hT => pLinked_any p w hT hp)
  have HGL := Lib.hid (show gateP p = true → linkedP p = true from gate_linked)
  generalize gateP p = g at *
  generalize linkedP p = l at *
  obtain ⟨q, hq⟩ : ∃ q, q = (nextP p v).1 := ⟨_, rfl⟩
  have hD := next_dark p v
  rw [← hq] at EN hD
  clear hp hv
  rcases hD with h | h
  · obtain ⟨hi, p0, p8, q0, q8, d8, d7, d10, dq8, dq7⟩ := h
    rw [hi] at EN
    have nq0 : ¬ q < 0 := by omega
    have nq8 : ¬ 8 < q := by omega
    clear hi hq
    by_cases hp8 : p = 8
    · rcases d8 hp8 with hv | hv
      · subst hp8 hv
        have eq8 : (q == 8) = false := beq_eq_false_iff_ne.2 (by omega)
        have eq7 : (q == 7) = false := beq_eq_false_iff_ne.2 (by omega)
        clear d8 d7 d10 dq8 dq7
        have HB := Lib.hid (Below.refl W.heap.size W)
        go_enter Try.func6, Try.ntmps6
        go_wp2_with fail
        refine (shown14_any _ (HT.out.below HB.out)).mono ?_
        rintro e w1 ⟨rfl, hb⟩
        have nHB := Lib.hid (belG HB.out hb HB.out.size)
        clear hb
        clear HB 
        have HB := nHB
        clear nHB 
        go_wp2_with fail
        refine (EN.out _ (HT.out.below HB.out)).mono ?_
        rintro e w2 ⟨rfl, hb⟩
        have nHB := Lib.hid (belG HB.out hb HB.out.size)
        clear hb
        clear HB 
        have HB := nHB
        clear nHB 
        go_wp2_with fail
        refine (L0.out _ (HT.out.below HB.out)).mono ?_
        rintro e w3 ⟨rfl, hb⟩
        have nHB := Lib.hid (belG HB.out hb HB.out.size)
        clear hb
        clear HB 
        have HB := nHB
        clear nHB 
        go_wp2_with fail
        refine (L7.out _ (HT.out.below HB.out)).mono ?_
        rintro e w4 ⟨rfl, hb⟩
        have nHB := Lib.hid (belG HB.out hb HB.out.size)
        clear hb
        clear HB 
        have HB := nHB
        clear nHB 
        go_wp2_with fail
        refine (L8.out _ (HT.out.below HB.out)).mono ?_
        rintro e w5 ⟨rfl, hb⟩
        have nHB := Lib.hid (belG HB.out hb HB.out.size)
        clear hb
        clear HB 
        have HB := nHB
        clear nHB 
        go_wp2_with fail
        refine (L1.out _ (HT.out.below HB.out)).mono ?_
        rintro e w6 ⟨rfl, hb⟩
        have nHB := Lib.hid (belG HB.out hb HB.out.size)
        clear hb
        clear HB 
        have HB := nHB
        clear nHB 
        go_wp2_with fail
        refine (EG.out _ (HT.out.below HB.out)).mono ?_
        rintro e w7 ⟨rfl, hb⟩
        have nHB := Lib.hid (belG HB.out hb HB.out.size)
        clear hb
        clear HB 
        have HB := nHB
        clear nHB 
        cases g with
        | false =>
          go_wp2_with fail
          go_ret
          exact ⟨by first | rfl | (simp; done), HB.out⟩
        | true =>
          obtain rfl : l = true := HGL.out rfl
          go_wp2_with fail
          refine (EL.out _ (HT.out.below HB.out)).mono ?_
          rintro e w8 ⟨rfl, hb⟩
          have nHB := Lib.hid (belG HB.out hb HB.out.size)
          clear hb
          clear HB 
          have HB := nHB
          clear nHB 
          go_wp2_with fail
          go_ret
          exact ⟨by first | rfl | (simp; done), HB.out⟩
      · subst hp8 hv
        obtain rfl : q = 7 := dq7.2 rfl
        clear d8 d7 d10 dq8 dq7
        have HB := Lib.hid (Below.refl W.heap.size W)
        go_enter Try.func6, Try.ntmps6
        go_wp2_with fail
        refine (shown14_any _ (HT.out.below HB.out)).mono ?_
        rintro e w1 ⟨rfl, hb⟩
        have nHB := Lib.hid (belG HB.out hb HB.out.size)
        clear hb
        clear HB 
        have HB := nHB
        clear nHB 
        go_wp2_with fail
        refine (EN.out _ (HT.out.below HB.out)).mono ?_
        rintro e w2 ⟨rfl, hb⟩
        have nHB := Lib.hid (belG HB.out hb HB.out.size)
        clear hb
        clear HB 
        have HB := nHB
        clear nHB 
        go_wp2_with fail
        refine (L0.out _ (HT.out.below HB.out)).mono ?_
        rintro e w3 ⟨rfl, hb⟩
        have nHB := Lib.hid (belG HB.out hb HB.out.size)
        clear hb
        clear HB 
        have HB := nHB
        clear nHB 
        go_wp2_with fail
        refine (L7.out _ (HT.out.below HB.out)).mono ?_
        rintro e w4 ⟨rfl, hb⟩
        have nHB := Lib.hid (belG HB.out hb HB.out.size)
        clear hb
        clear HB 
        have HB := nHB
        clear nHB 
        go_wp2_with fail
        refine (L8.out _ (HT.out.below HB.out)).mono ?_
        rintro e w5 ⟨rfl, hb⟩
        have nHB := Lib.hid (belG HB.out hb HB.out.size)
        clear hb
        clear HB 
        have HB := nHB
        clear nHB 
        go_wp2_with fail
        refine (L1.out _ (HT.out.below HB.out)).mono ?_
        rintro e w6 ⟨rfl, hb⟩
        have nHB := Lib.hid (belG HB.out hb HB.out.size)
        clear hb
        clear HB 
        have HB := nHB
        clear nHB 
        go_wp2_with fail
        refine (EG.out _ (HT.out.below HB.out)).mono ?_
        rintro e w7 ⟨rfl, hb⟩
        have nHB := Lib.hid (belG HB.out hb HB.out.size)
        clear hb
        clear HB 
        have HB := nHB
        clear nHB 
        cases g with
        | false =>
          go_wp2_with fail
          go_ret
          exact ⟨by first | rfl | (simp; done), HB.out⟩
        | true =>
          obtain rfl : l = true := HGL.out rfl
          go_wp2_with fail
          refine (EL.out _ (HT.out.below HB.out)).mono ?_
          rintro e w8 ⟨rfl, hb⟩
          have nHB := Lib.hid (belG HB.out hb HB.out.size)
          clear hb
          clear HB 
          have HB := nHB
          clear nHB 
          go_wp2_with fail
          go_ret
          exact ⟨by first | rfl | (simp; done), HB.out⟩
    by_cases hp7 : p = 7
    · obtain rfl := d7 hp7
      subst hp7
      obtain rfl : q = 8 := dq8.2 rfl
      clear d8 d7 d10 dq8 dq7 hp8
      have HB := Lib.hid (Below.refl W.heap.size W)
      go_enter Try.func6, Try.ntmps6
      go_wp2_with fail
      refine (shown14_any _ (HT.out.below HB.out)).mono ?_
      rintro e w1 ⟨rfl, hb⟩
      have nHB := Lib.hid (belG HB.out hb HB.out.size)
      clear hb
      clear HB 
      have HB := nHB
      clear nHB 
      go_wp2_with fail
      refine (EN.out _ (HT.out.below HB.out)).mono ?_
      rintro e w2 ⟨rfl, hb⟩
      have nHB := Lib.hid (belG HB.out hb HB.out.size)
      clear hb
      clear HB 
      have HB := nHB
      clear nHB 
      go_wp2_with fail
      refine (L0.out _ (HT.out.below HB.out)).mono ?_
      rintro e w3 ⟨rfl, hb⟩
      have nHB := Lib.hid (belG HB.out hb HB.out.size)
      clear hb
      clear HB 
      have HB := nHB
      clear nHB 
      go_wp2_with fail
      refine (L7.out _ (HT.out.below HB.out)).mono ?_
      rintro e w4 ⟨rfl, hb⟩
      have nHB := Lib.hid (belG HB.out hb HB.out.size)
      clear hb
      clear HB 
      have HB := nHB
      clear nHB 
      go_wp2_with fail
      refine (L8.out _ (HT.out.below HB.out)).mono ?_
      rintro e w5 ⟨rfl, hb⟩
      have nHB := Lib.hid (belG HB.out hb HB.out.size)
      clear hb
      clear HB 
      have HB := nHB
      clear nHB 
      go_wp2_with fail
      refine (L1.out _ (HT.out.below HB.out)).mono ?_
      rintro e w6 ⟨rfl, hb⟩
      have nHB := Lib.hid (belG HB.out hb HB.out.size)
      clear hb
      clear HB 
      have HB := nHB
      clear nHB 
      go_wp2_with fail
      refine (EG.out _ (HT.out.below HB.out)).mono ?_
      rintro e w7 ⟨rfl, hb⟩
      have nHB := Lib.hid (belG HB.out hb HB.out.size)
      clear hb
      clear HB 
      have HB := nHB
      clear nHB 
      cases g with
      | false =>
        go_wp2_with fail
        go_ret
        exact ⟨by first | rfl | (simp; done), HB.out⟩
      | true =>
        obtain rfl : l = true := HGL.out rfl
        go_wp2_with fail
        refine (EL.out _ (HT.out.below HB.out)).mono ?_
        rintro e w8 ⟨rfl, hb⟩
        have nHB := Lib.hid (belG HB.out hb HB.out.size)
        clear hb
        clear HB 
        have HB := nHB
        clear nHB 
        go_wp2_with fail
        go_ret
        exact ⟨by first | rfl | (simp; done), HB.out⟩
    by_cases hv10 : v = 10
    · subst hv10
      obtain rfl : q = 8 := dq8.2 rfl
      have ep8 : (p == 8) = false := beq_eq_false_iff_ne.2 (by omega)
      have ep7 : (p == 7) = false := beq_eq_false_iff_ne.2 (by omega)
      have ep8n : (p != 8) = true := by rw [bne, ep8]; rfl
      clear d8 d7 d10 dq8 dq7 hp7 hp8
      have HB := Lib.hid (Below.refl W.heap.size W)
      go_enter Try.func6, Try.ntmps6
      go_wp2_with fail
      refine (shown14_any _ (HT.out.below HB.out)).mono ?_
      rintro e w1 ⟨rfl, hb⟩
      have nHB := Lib.hid (belG HB.out hb HB.out.size)
      clear hb
      clear HB 
      have HB := nHB
      clear nHB 
      go_wp2_with fail
      refine (EN.out _ (HT.out.below HB.out)).mono ?_
      rintro e w2 ⟨rfl, hb⟩
      have nHB := Lib.hid (belG HB.out hb HB.out.size)
      clear hb
      clear HB 
      have HB := nHB
      clear nHB 
      go_wp2_with fail
      refine (L0.out _ (HT.out.below HB.out)).mono ?_
      rintro e w3 ⟨rfl, hb⟩
      have nHB := Lib.hid (belG HB.out hb HB.out.size)
      clear hb
      clear HB 
      have HB := nHB
      clear nHB 
      go_wp2_with fail
      refine (L7.out _ (HT.out.below HB.out)).mono ?_
      rintro e w4 ⟨rfl, hb⟩
      have nHB := Lib.hid (belG HB.out hb HB.out.size)
      clear hb
      clear HB 
      have HB := nHB
      clear nHB 
      go_wp2_with fail
      refine (L8.out _ (HT.out.below HB.out)).mono ?_
      rintro e w5 ⟨rfl, hb⟩
      have nHB := Lib.hid (belG HB.out hb HB.out.size)
      clear hb
      clear HB 
      have HB := nHB
      clear nHB 
      go_wp2_with fail
      refine (L1.out _ (HT.out.below HB.out)).mono ?_
      rintro e w6 ⟨rfl, hb⟩
      have nHB := Lib.hid (belG HB.out hb HB.out.size)
      clear hb
      clear HB 
      have HB := nHB
      clear nHB 
      go_wp2_with fail
      refine (EG.out _ (HT.out.below HB.out)).mono ?_
      rintro e w7 ⟨rfl, hb⟩
      have nHB := Lib.hid (belG HB.out hb HB.out.size)
      clear hb
      clear HB 
      have HB := nHB
      clear nHB 
      cases g with
      | false =>
        go_wp2_with fail
        go_ret
        exact ⟨by first | rfl | (simp; done), HB.out⟩
      | true =>
        obtain rfl : l = true := HGL.out rfl
        go_wp2_with fail
        refine (EL.out _ (HT.out.below HB.out)).mono ?_
        rintro e w8 ⟨rfl, hb⟩
        have nHB := Lib.hid (belG HB.out hb HB.out.size)
        clear hb
        clear HB 
        have HB := nHB
        clear nHB 
        go_wp2_with fail
        go_ret
        exact ⟨by first | rfl | (simp; done), HB.out⟩
    by_cases hv12 : v = 12
    · subst hv12
      obtain rfl : q = 7 := dq7.2 rfl
      have ep8 : (p == 8) = false := beq_eq_false_iff_ne.2 (by omega)
      have ep7 : (p == 7) = false := beq_eq_false_iff_ne.2 (by omega)
      clear d8 d7 d10 dq8 dq7 hp7 hp8 hv10
      have HB := Lib.hid (Below.refl W.heap.size W)
      go_enter Try.func6, Try.ntmps6
      go_wp2_with fail
      refine (shown14_any _ (HT.out.below HB.out)).mono ?_
      rintro e w1 ⟨rfl, hb⟩
      have nHB := Lib.hid (belG HB.out hb HB.out.size)
      clear hb
      clear HB 
      have HB := nHB
      clear nHB 
      go_wp2_with fail
      refine (EN.out _ (HT.out.below HB.out)).mono ?_
      rintro e w2 ⟨rfl, hb⟩
      have nHB := Lib.hid (belG HB.out hb HB.out.size)
      clear hb
      clear HB 
      have HB := nHB
      clear nHB 
      go_wp2_with fail
      refine (L0.out _ (HT.out.below HB.out)).mono ?_
      rintro e w3 ⟨rfl, hb⟩
      have nHB := Lib.hid (belG HB.out hb HB.out.size)
      clear hb
      clear HB 
      have HB := nHB
      clear nHB 
      go_wp2_with fail
      refine (L7.out _ (HT.out.below HB.out)).mono ?_
      rintro e w4 ⟨rfl, hb⟩
      have nHB := Lib.hid (belG HB.out hb HB.out.size)
      clear hb
      clear HB 
      have HB := nHB
      clear nHB 
      go_wp2_with fail
      refine (L8.out _ (HT.out.below HB.out)).mono ?_
      rintro e w5 ⟨rfl, hb⟩
      have nHB := Lib.hid (belG HB.out hb HB.out.size)
      clear hb
      clear HB 
      have HB := nHB
      clear nHB 
      go_wp2_with fail
      refine (L1.out _ (HT.out.below HB.out)).mono ?_
      rintro e w6 ⟨rfl, hb⟩
      have nHB := Lib.hid (belG HB.out hb HB.out.size)
      clear hb
      clear HB 
      have HB := nHB
      clear nHB 
      go_wp2_with fail
      refine (EG.out _ (HT.out.below HB.out)).mono ?_
      rintro e w7 ⟨rfl, hb⟩
      have nHB := Lib.hid (belG HB.out hb HB.out.size)
      clear hb
      clear HB 
      have HB := nHB
      clear nHB 
      cases g with
      | false =>
        go_wp2_with fail
        go_ret
        exact ⟨by first | rfl | (simp; done), HB.out⟩
      | true =>
        obtain rfl : l = true := HGL.out rfl
        go_wp2_with fail
        refine (EL.out _ (HT.out.below HB.out)).mono ?_
        rintro e w8 ⟨rfl, hb⟩
        have nHB := Lib.hid (belG HB.out hb HB.out.size)
        clear hb
        clear HB 
        have HB := nHB
        clear nHB 
        go_wp2_with fail
        go_ret
        exact ⟨by first | rfl | (simp; done), HB.out⟩
    have nx8 : q ≠ 8 := fun h => hv10 (dq8.1 h)
    have nx7 : q ≠ 7 := fun h => hv12 (dq7.1 h)
    have ep8 : (p == 8) = false := beq_eq_false_iff_ne.2 (by omega)
    have ep7 : (p == 7) = false := beq_eq_false_iff_ne.2 (by omega)
    have ev10 : (v == 10) = false := beq_eq_false_iff_ne.2 (by omega)
    have ev12 : (v == 12) = false := beq_eq_false_iff_ne.2 (by omega)
    have eq8 : (q == 8) = false := beq_eq_false_iff_ne.2 nx8
    have eq7 : (q == 7) = false := beq_eq_false_iff_ne.2 nx7
    clear d8 d7 d10 dq8 dq7 hp7 hp8 hv10 hv12 nx8 nx7
    have HB := Lib.hid (Below.refl W.heap.size W)
    go_enter Try.func6, Try.ntmps6
    go_wp2_with fail
    refine (shown14_any _ (HT.out.below HB.out)).mono ?_
    rintro e w1 ⟨rfl, hb⟩
    have nHB := Lib.hid (belG HB.out hb HB.out.size)
    clear hb
    clear HB 
    have HB := nHB
    clear nHB 
    go_wp2_with fail
    refine (EN.out _ (HT.out.below HB.out)).mono ?_
    rintro e w2 ⟨rfl, hb⟩
    have nHB := Lib.hid (belG HB.out hb HB.out.size)
    clear hb
    clear HB 
    have HB := nHB
    clear nHB 
    go_wp2_with fail
    refine (L0.out _ (HT.out.below HB.out)).mono ?_
    rintro e w3 ⟨rfl, hb⟩
    have nHB := Lib.hid (belG HB.out hb HB.out.size)
    clear hb
    clear HB 
    have HB := nHB
    clear nHB 
    go_wp2_with fail
    refine (L7.out _ (HT.out.below HB.out)).mono ?_
    rintro e w4 ⟨rfl, hb⟩
    have nHB := Lib.hid (belG HB.out hb HB.out.size)
    clear hb
    clear HB 
    have HB := nHB
    clear nHB 
    go_wp2_with fail
    refine (L8.out _ (HT.out.below HB.out)).mono ?_
    rintro e w5 ⟨rfl, hb⟩
    have nHB := Lib.hid (belG HB.out hb HB.out.size)
    clear hb
    clear HB 
    have HB := nHB
    clear nHB 
    go_wp2_with fail
    refine (L1.out _ (HT.out.below HB.out)).mono ?_
    rintro e w6 ⟨rfl, hb⟩
    have nHB := Lib.hid (belG HB.out hb HB.out.size)
    clear hb
    clear HB 
    have HB := nHB
    clear nHB 
    go_wp2_with fail
    refine (EG.out _ (HT.out.below HB.out)).mono ?_
    rintro e w7 ⟨rfl, hb⟩
    have nHB := Lib.hid (belG HB.out hb HB.out.size)
    clear hb
    clear HB 
    have HB := nHB
    clear nHB 
    cases g with
    | false =>
      go_wp2_with fail
      go_ret
      exact ⟨by first | rfl | (simp; done), HB.out⟩
    | true =>
      obtain rfl : l = true := HGL.out rfl
      go_wp2_with fail
      refine (EL.out _ (HT.out.below HB.out)).mono ?_
      rintro e w8 ⟨rfl, hb⟩
      have nHB := Lib.hid (belG HB.out hb HB.out.size)
      clear hb
      clear HB 
      have HB := nHB
      clear nHB 
      go_wp2_with fail
      go_ret
      exact ⟨by first | rfl | (simp; done), HB.out⟩
  · obtain ⟨hi, d8, d7, d10⟩ := h
    rw [hi] at hq EN
    have hq2 : q = p := hq
    subst hq2
    have eqq : (q != q) = false := by simp
    clear hi hq
    by_cases hp8 : q = 8
    · subst hp8
      obtain ⟨n1, n2⟩ := d8 rfl
      by_cases hv10 : v = 10
      · subst hv10
        clear d8 d7 d10 n1 n2
        have HB := Lib.hid (Below.refl W.heap.size W)
        go_enter Try.func6, Try.ntmps6
        go_wp2_with fail
        refine (shown14_any _ (HT.out.below HB.out)).mono ?_
        rintro e w1 ⟨rfl, hb⟩
        have nHB := Lib.hid (belG HB.out hb HB.out.size)
        clear hb
        clear HB 
        have HB := nHB
        clear nHB 
        go_wp2_with fail
        refine (EN.out _ (HT.out.below HB.out)).mono ?_
        rintro e w2 ⟨rfl, hb⟩
        have nHB := Lib.hid (belG HB.out hb HB.out.size)
        clear hb
        clear HB 
        have HB := nHB
        clear nHB 
        go_wp2_with fail
        refine (L0.out _ (HT.out.below HB.out)).mono ?_
        rintro e w3 ⟨rfl, hb⟩
        have nHB := Lib.hid (belG HB.out hb HB.out.size)
        clear hb
        clear HB 
        have HB := nHB
        clear nHB 
        go_wp2_with fail
        refine (L7.out _ (HT.out.below HB.out)).mono ?_
        rintro e w4 ⟨rfl, hb⟩
        have nHB := Lib.hid (belG HB.out hb HB.out.size)
        clear hb
        clear HB 
        have HB := nHB
        clear nHB 
        go_wp2_with fail
        refine (L8.out _ (HT.out.below HB.out)).mono ?_
        rintro e w5 ⟨rfl, hb⟩
        have nHB := Lib.hid (belG HB.out hb HB.out.size)
        clear hb
        clear HB 
        have HB := nHB
        clear nHB 
        go_wp2_with fail
        refine (L1.out _ (HT.out.below HB.out)).mono ?_
        rintro e w6 ⟨rfl, hb⟩
        have nHB := Lib.hid (belG HB.out hb HB.out.size)
        clear hb
        clear HB 
        have HB := nHB
        clear nHB 
        go_wp2_with fail
        refine (EG.out _ (HT.out.below HB.out)).mono ?_
        rintro e w7 ⟨rfl, hb⟩
        have nHB := Lib.hid (belG HB.out hb HB.out.size)
        clear hb
        clear HB 
        have HB := nHB
        clear nHB 
        cases g with
        | false =>
          go_wp2_with fail
          go_ret
          exact ⟨by first | rfl | (simp; done), HB.out⟩
        | true =>
          obtain rfl : l = true := HGL.out rfl
          go_wp2_with fail
          refine (EL.out _ (HT.out.below HB.out)).mono ?_
          rintro e w8 ⟨rfl, hb⟩
          have nHB := Lib.hid (belG HB.out hb HB.out.size)
          clear hb
          clear HB 
          have HB := nHB
          clear nHB 
          go_wp2_with fail
          go_ret
          exact ⟨by first | rfl | (simp; done), HB.out⟩
      have ev10 : (v == 10) = false := beq_eq_false_iff_ne.2 (by omega)
      have ev11 : (v == 11) = false := beq_eq_false_iff_ne.2 (by omega)
      have ev12 : (v == 12) = false := beq_eq_false_iff_ne.2 (by omega)
      clear d8 d7 d10 n1 n2 hv10
      have HB := Lib.hid (Below.refl W.heap.size W)
      go_enter Try.func6, Try.ntmps6
      go_wp2_with fail
      refine (shown14_any _ (HT.out.below HB.out)).mono ?_
      rintro e w1 ⟨rfl, hb⟩
      have nHB := Lib.hid (belG HB.out hb HB.out.size)
      clear hb
      clear HB 
      have HB := nHB
      clear nHB 
      go_wp2_with fail
      refine (EN.out _ (HT.out.below HB.out)).mono ?_
      rintro e w2 ⟨rfl, hb⟩
      have nHB := Lib.hid (belG HB.out hb HB.out.size)
      clear hb
      clear HB 
      have HB := nHB
      clear nHB 
      go_wp2_with fail
      refine (L0.out _ (HT.out.below HB.out)).mono ?_
      rintro e w3 ⟨rfl, hb⟩
      have nHB := Lib.hid (belG HB.out hb HB.out.size)
      clear hb
      clear HB 
      have HB := nHB
      clear nHB 
      go_wp2_with fail
      refine (L7.out _ (HT.out.below HB.out)).mono ?_
      rintro e w4 ⟨rfl, hb⟩
      have nHB := Lib.hid (belG HB.out hb HB.out.size)
      clear hb
      clear HB 
      have HB := nHB
      clear nHB 
      go_wp2_with fail
      refine (L8.out _ (HT.out.below HB.out)).mono ?_
      rintro e w5 ⟨rfl, hb⟩
      have nHB := Lib.hid (belG HB.out hb HB.out.size)
      clear hb
      clear HB 
      have HB := nHB
      clear nHB 
      go_wp2_with fail
      refine (L1.out _ (HT.out.below HB.out)).mono ?_
      rintro e w6 ⟨rfl, hb⟩
      have nHB := Lib.hid (belG HB.out hb HB.out.size)
      clear hb
      clear HB 
      have HB := nHB
      clear nHB 
      go_wp2_with fail
      refine (EG.out _ (HT.out.below HB.out)).mono ?_
      rintro e w7 ⟨rfl, hb⟩
      have nHB := Lib.hid (belG HB.out hb HB.out.size)
      clear hb
      clear HB 
      have HB := nHB
      clear nHB 
      cases g with
      | false =>
        go_wp2_with fail
        go_ret
        exact ⟨by first | rfl | (simp; done), HB.out⟩
      | true =>
        obtain rfl : l = true := HGL.out rfl
        go_wp2_with fail
        refine (EL.out _ (HT.out.below HB.out)).mono ?_
        rintro e w8 ⟨rfl, hb⟩
        have nHB := Lib.hid (belG HB.out hb HB.out.size)
        clear hb
        clear HB 
        have HB := nHB
        clear nHB 
        go_wp2_with fail
        go_ret
        exact ⟨by first | rfl | (simp; done), HB.out⟩
    by_cases hp7 : q = 7
    · subst hp7
      have n1 := d7 rfl
      have ev10 : (v == 10) = false := beq_eq_false_iff_ne.2 (by omega)
      clear d8 d7 d10 n1 hp8
      have HB := Lib.hid (Below.refl W.heap.size W)
      go_enter Try.func6, Try.ntmps6
      go_wp2_with fail
      refine (shown14_any _ (HT.out.below HB.out)).mono ?_
      rintro e w1 ⟨rfl, hb⟩
      have nHB := Lib.hid (belG HB.out hb HB.out.size)
      clear hb
      clear HB 
      have HB := nHB
      clear nHB 
      go_wp2_with fail
      refine (EN.out _ (HT.out.below HB.out)).mono ?_
      rintro e w2 ⟨rfl, hb⟩
      have nHB := Lib.hid (belG HB.out hb HB.out.size)
      clear hb
      clear HB 
      have HB := nHB
      clear nHB 
      go_wp2_with fail
      refine (L0.out _ (HT.out.below HB.out)).mono ?_
      rintro e w3 ⟨rfl, hb⟩
      have nHB := Lib.hid (belG HB.out hb HB.out.size)
      clear hb
      clear HB 
      have HB := nHB
      clear nHB 
      go_wp2_with fail
      refine (L7.out _ (HT.out.below HB.out)).mono ?_
      rintro e w4 ⟨rfl, hb⟩
      have nHB := Lib.hid (belG HB.out hb HB.out.size)
      clear hb
      clear HB 
      have HB := nHB
      clear nHB 
      go_wp2_with fail
      refine (L8.out _ (HT.out.below HB.out)).mono ?_
      rintro e w5 ⟨rfl, hb⟩
      have nHB := Lib.hid (belG HB.out hb HB.out.size)
      clear hb
      clear HB 
      have HB := nHB
      clear nHB 
      go_wp2_with fail
      refine (L1.out _ (HT.out.below HB.out)).mono ?_
      rintro e w6 ⟨rfl, hb⟩
      have nHB := Lib.hid (belG HB.out hb HB.out.size)
      clear hb
      clear HB 
      have HB := nHB
      clear nHB 
      go_wp2_with fail
      refine (EG.out _ (HT.out.below HB.out)).mono ?_
      rintro e w7 ⟨rfl, hb⟩
      have nHB := Lib.hid (belG HB.out hb HB.out.size)
      clear hb
      clear HB 
      have HB := nHB
      clear nHB 
      cases g with
      | false =>
        go_wp2_with fail
        go_ret
        exact ⟨by first | rfl | (simp; done), HB.out⟩
      | true =>
        obtain rfl : l = true := HGL.out rfl
        go_wp2_with fail
        refine (EL.out _ (HT.out.below HB.out)).mono ?_
        rintro e w8 ⟨rfl, hb⟩
        have nHB := Lib.hid (belG HB.out hb HB.out.size)
        clear hb
        clear HB 
        have HB := nHB
        clear nHB 
        go_wp2_with fail
        go_ret
        exact ⟨by first | rfl | (simp; done), HB.out⟩
    by_cases hv10 : v = 10
    · subst hv10
      have n1 := d10 rfl
      by_cases h0 : 0 ≤ q
      · have h8 : ¬ q ≤ 8 := fun h => n1 ⟨h0, h, hp8⟩
        have h9 : decide (q ≤ 8) = false := decide_eq_false h8
        have eq8 : (q == 8) = false := beq_eq_false_iff_ne.2 (by omega)
        have eq7 : (q == 7) = false := beq_eq_false_iff_ne.2 (by omega)
        clear d8 d7 d10 n1 hp7 hp8
        have HB := Lib.hid (Below.refl W.heap.size W)
        go_enter Try.func6, Try.ntmps6
        go_wp2_with fail
        refine (shown14_any _ (HT.out.below HB.out)).mono ?_
        rintro e w1 ⟨rfl, hb⟩
        have nHB := Lib.hid (belG HB.out hb HB.out.size)
        clear hb
        clear HB 
        have HB := nHB
        clear nHB 
        go_wp2_with fail
        refine (EN.out _ (HT.out.below HB.out)).mono ?_
        rintro e w2 ⟨rfl, hb⟩
        have nHB := Lib.hid (belG HB.out hb HB.out.size)
        clear hb
        clear HB 
        have HB := nHB
        clear nHB 
        go_wp2_with fail
        refine (L0.out _ (HT.out.below HB.out)).mono ?_
        rintro e w3 ⟨rfl, hb⟩
        have nHB := Lib.hid (belG HB.out hb HB.out.size)
        clear hb
        clear HB 
        have HB := nHB
        clear nHB 
        go_wp2_with fail
        refine (L7.out _ (HT.out.below HB.out)).mono ?_
        rintro e w4 ⟨rfl, hb⟩
        have nHB := Lib.hid (belG HB.out hb HB.out.size)
        clear hb
        clear HB 
        have HB := nHB
        clear nHB 
        go_wp2_with fail
        refine (L8.out _ (HT.out.below HB.out)).mono ?_
        rintro e w5 ⟨rfl, hb⟩
        have nHB := Lib.hid (belG HB.out hb HB.out.size)
        clear hb
        clear HB 
        have HB := nHB
        clear nHB 
        go_wp2_with fail
        refine (L1.out _ (HT.out.below HB.out)).mono ?_
        rintro e w6 ⟨rfl, hb⟩
        have nHB := Lib.hid (belG HB.out hb HB.out.size)
        clear hb
        clear HB 
        have HB := nHB
        clear nHB 
        go_wp2_with fail
        refine (EG.out _ (HT.out.below HB.out)).mono ?_
        rintro e w7 ⟨rfl, hb⟩
        have nHB := Lib.hid (belG HB.out hb HB.out.size)
        clear hb
        clear HB 
        have HB := nHB
        clear nHB 
        cases g with
        | false =>
          go_wp2_with fail
          go_ret
          exact ⟨by first | rfl | (simp; done), HB.out⟩
        | true =>
          obtain rfl : l = true := HGL.out rfl
          go_wp2_with fail
          refine (EL.out _ (HT.out.below HB.out)).mono ?_
          rintro e w8 ⟨rfl, hb⟩
          have nHB := Lib.hid (belG HB.out hb HB.out.size)
          clear hb
          clear HB 
          have HB := nHB
          clear nHB 
          go_wp2_with fail
          go_ret
          exact ⟨by first | rfl | (simp; done), HB.out⟩
      have eq8 : (q == 8) = false := beq_eq_false_iff_ne.2 (by omega)
      have eq7 : (q == 7) = false := beq_eq_false_iff_ne.2 (by omega)
      clear d8 d7 d10 n1 hp7 hp8
      have HB := Lib.hid (Below.refl W.heap.size W)
      go_enter Try.func6, Try.ntmps6
      go_wp2_with fail
      refine (shown14_any _ (HT.out.below HB.out)).mono ?_
      rintro e w1 ⟨rfl, hb⟩
      have nHB := Lib.hid (belG HB.out hb HB.out.size)
      clear hb
      clear HB 
      have HB := nHB
      clear nHB 
      go_wp2_with fail
      refine (EN.out _ (HT.out.below HB.out)).mono ?_
      rintro e w2 ⟨rfl, hb⟩
      have nHB := Lib.hid (belG HB.out hb HB.out.size)
      clear hb
      clear HB 
      have HB := nHB
      clear nHB 
      go_wp2_with fail
      refine (L0.out _ (HT.out.below HB.out)).mono ?_
      rintro e w3 ⟨rfl, hb⟩
      have nHB := Lib.hid (belG HB.out hb HB.out.size)
      clear hb
      clear HB 
      have HB := nHB
      clear nHB 
      go_wp2_with fail
      refine (L7.out _ (HT.out.below HB.out)).mono ?_
      rintro e w4 ⟨rfl, hb⟩
      have nHB := Lib.hid (belG HB.out hb HB.out.size)
      clear hb
      clear HB 
      have HB := nHB
      clear nHB 
      go_wp2_with fail
      refine (L8.out _ (HT.out.below HB.out)).mono ?_
      rintro e w5 ⟨rfl, hb⟩
      have nHB := Lib.hid (belG HB.out hb HB.out.size)
      clear hb
      clear HB 
      have HB := nHB
      clear nHB 
      go_wp2_with fail
      refine (L1.out _ (HT.out.below HB.out)).mono ?_
      rintro e w6 ⟨rfl, hb⟩
      have nHB := Lib.hid (belG HB.out hb HB.out.size)
      clear hb
      clear HB 
      have HB := nHB
      clear nHB 
      go_wp2_with fail
      refine (EG.out _ (HT.out.below HB.out)).mono ?_
      rintro e w7 ⟨rfl, hb⟩
      have nHB := Lib.hid (belG HB.out hb HB.out.size)
      clear hb
      clear HB 
      have HB := nHB
      clear nHB 
      cases g with
      | false =>
        go_wp2_with fail
        go_ret
        exact ⟨by first | rfl | (simp; done), HB.out⟩
      | true =>
        obtain rfl : l = true := HGL.out rfl
        go_wp2_with fail
        refine (EL.out _ (HT.out.below HB.out)).mono ?_
        rintro e w8 ⟨rfl, hb⟩
        have nHB := Lib.hid (belG HB.out hb HB.out.size)
        clear hb
        clear HB 
        have HB := nHB
        clear nHB 
        go_wp2_with fail
        go_ret
        exact ⟨by first | rfl | (simp; done), HB.out⟩
    have ee8 : (q == 8) = false := beq_eq_false_iff_ne.2 hp8
    have ee7 : (q == 7) = false := beq_eq_false_iff_ne.2 hp7
    have ee10 : (v == 10) = false := beq_eq_false_iff_ne.2 hv10
    clear d8 d7 d10 hp7 hp8 hv10
    by_cases h0 : 0 ≤ q
    · by_cases h8 : q ≤ 8
      · skip
        have HB := Lib.hid (Below.refl W.heap.size W)
        go_enter Try.func6, Try.ntmps6
        go_wp2_with fail
        refine (shown14_any _ (HT.out.below HB.out)).mono ?_
        rintro e w1 ⟨rfl, hb⟩
        have nHB := Lib.hid (belG HB.out hb HB.out.size)
        clear hb
        clear HB 
        have HB := nHB
        clear nHB 
        go_wp2_with fail
        refine (EN.out _ (HT.out.below HB.out)).mono ?_
        rintro e w2 ⟨rfl, hb⟩
        have nHB := Lib.hid (belG HB.out hb HB.out.size)
        clear hb
        clear HB 
        have HB := nHB
        clear nHB 
        go_wp2_with fail
        refine (L0.out _ (HT.out.below HB.out)).mono ?_
        rintro e w3 ⟨rfl, hb⟩
        have nHB := Lib.hid (belG HB.out hb HB.out.size)
        clear hb
        clear HB 
        have HB := nHB
        clear nHB 
        go_wp2_with fail
        refine (L7.out _ (HT.out.below HB.out)).mono ?_
        rintro e w4 ⟨rfl, hb⟩
        have nHB := Lib.hid (belG HB.out hb HB.out.size)
        clear hb
        clear HB 
        have HB := nHB
        clear nHB 
        go_wp2_with fail
        refine (L8.out _ (HT.out.below HB.out)).mono ?_
        rintro e w5 ⟨rfl, hb⟩
        have nHB := Lib.hid (belG HB.out hb HB.out.size)
        clear hb
        clear HB 
        have HB := nHB
        clear nHB 
        go_wp2_with fail
        refine (L1.out _ (HT.out.below HB.out)).mono ?_
        rintro e w6 ⟨rfl, hb⟩
        have nHB := Lib.hid (belG HB.out hb HB.out.size)
        clear hb
        clear HB 
        have HB := nHB
        clear nHB 
        go_wp2_with fail
        refine (EG.out _ (HT.out.below HB.out)).mono ?_
        rintro e w7 ⟨rfl, hb⟩
        have nHB := Lib.hid (belG HB.out hb HB.out.size)
        clear hb
        clear HB 
        have HB := nHB
        clear nHB 
        cases g with
        | false =>
          go_wp2_with fail
          go_ret
          exact ⟨by first | rfl | (simp; done), HB.out⟩
        | true =>
          obtain rfl : l = true := HGL.out rfl
          go_wp2_with fail
          refine (EL.out _ (HT.out.below HB.out)).mono ?_
          rintro e w8 ⟨rfl, hb⟩
          have nHB := Lib.hid (belG HB.out hb HB.out.size)
          clear hb
          clear HB 
          have HB := nHB
          clear nHB 
          go_wp2_with fail
          go_ret
          exact ⟨by first | rfl | (simp; done), HB.out⟩
      · have h9 : decide (q ≤ 8) = false := decide_eq_false h8
        have HB := Lib.hid (Below.refl W.heap.size W)
        go_enter Try.func6, Try.ntmps6
        go_wp2_with fail
        refine (shown14_any _ (HT.out.below HB.out)).mono ?_
        rintro e w1 ⟨rfl, hb⟩
        have nHB := Lib.hid (belG HB.out hb HB.out.size)
        clear hb
        clear HB 
        have HB := nHB
        clear nHB 
        go_wp2_with fail
        refine (EN.out _ (HT.out.below HB.out)).mono ?_
        rintro e w2 ⟨rfl, hb⟩
        have nHB := Lib.hid (belG HB.out hb HB.out.size)
        clear hb
        clear HB 
        have HB := nHB
        clear nHB 
        go_wp2_with fail
        refine (L0.out _ (HT.out.below HB.out)).mono ?_
        rintro e w3 ⟨rfl, hb⟩
        have nHB := Lib.hid (belG HB.out hb HB.out.size)
        clear hb
        clear HB 
        have HB := nHB
        clear nHB 
        go_wp2_with fail
        refine (L7.out _ (HT.out.below HB.out)).mono ?_
        rintro e w4 ⟨rfl, hb⟩
        have nHB := Lib.hid (belG HB.out hb HB.out.size)
        clear hb
        clear HB 
        have HB := nHB
        clear nHB 
        go_wp2_with fail
        refine (L8.out _ (HT.out.below HB.out)).mono ?_
        rintro e w5 ⟨rfl, hb⟩
        have nHB := Lib.hid (belG HB.out hb HB.out.size)
        clear hb
        clear HB 
        have HB := nHB
        clear nHB 
        go_wp2_with fail
        refine (L1.out _ (HT.out.below HB.out)).mono ?_
        rintro e w6 ⟨rfl, hb⟩
        have nHB := Lib.hid (belG HB.out hb HB.out.size)
        clear hb
        clear HB 
        have HB := nHB
        clear nHB 
        go_wp2_with fail
        refine (EG.out _ (HT.out.below HB.out)).mono ?_
        rintro e w7 ⟨rfl, hb⟩
        have nHB := Lib.hid (belG HB.out hb HB.out.size)
        clear hb
        clear HB 
        have HB := nHB
        clear nHB 
        cases g with
        | false =>
          go_wp2_with fail
          go_ret
          exact ⟨by first | rfl | (simp; done), HB.out⟩
        | true =>
          obtain rfl : l = true := HGL.out rfl
          go_wp2_with fail
          refine (EL.out _ (HT.out.below HB.out)).mono ?_
          rintro e w8 ⟨rfl, hb⟩
          have nHB := Lib.hid (belG HB.out hb HB.out.size)
          clear hb
          clear HB 
          have HB := nHB
          clear nHB 
          go_wp2_with fail
          go_ret
          exact ⟨by first | rfl | (simp; done), HB.out⟩
    · skip
      have HB := Lib.hid (Below.refl W.heap.size W)
      go_enter Try.func6, Try.ntmps6
      go_wp2_with fail
      refine (shown14_any _ (HT.out.below HB.out)).mono ?_
      rintro e w1 ⟨rfl, hb⟩
      have nHB := Lib.hid (belG HB.out hb HB.out.size)
      clear hb
      clear HB 
      have HB := nHB
      clear nHB 
      go_wp2_with fail
      refine (EN.out _ (HT.out.below HB.out)).mono ?_
      rintro e w2 ⟨rfl, hb⟩
      have nHB := Lib.hid (belG HB.out hb HB.out.size)
      clear hb
      clear HB 
      have HB := nHB
      clear nHB 
      go_wp2_with fail
      refine (L0.out _ (HT.out.below HB.out)).mono ?_
      rintro e w3 ⟨rfl, hb⟩
      have nHB := Lib.hid (belG HB.out hb HB.out.size)
      clear hb
      clear HB 
      have HB := nHB
      clear nHB 
      go_wp2_with fail
      refine (L7.out _ (HT.out.below HB.out)).mono ?_
      rintro e w4 ⟨rfl, hb⟩
      have nHB := Lib.hid (belG HB.out hb HB.out.size)
      clear hb
      clear HB 
      have HB := nHB
      clear nHB 
      go_wp2_with fail
      refine (L8.out _ (HT.out.below HB.out)).mono ?_
      rintro e w5 ⟨rfl, hb⟩
      have nHB := Lib.hid (belG HB.out hb HB.out.size)
      clear hb
      clear HB 
      have HB := nHB
      clear nHB 
      go_wp2_with fail
      refine (L1.out _ (HT.out.below HB.out)).mono ?_
      rintro e w6 ⟨rfl, hb⟩
      have nHB := Lib.hid (belG HB.out hb HB.out.size)
      clear hb
      clear HB 
      have HB := nHB
      clear nHB 
      go_wp2_with fail
      refine (EG.out _ (HT.out.below HB.out)).mono ?_
      rintro e w7 ⟨rfl, hb⟩
      have nHB := Lib.hid (belG HB.out hb HB.out.size)
      clear hb
      clear HB 
      have HB := nHB
      clear nHB 
      cases g with
      | false =>
        go_wp2_with fail
        go_ret
        exact ⟨by first | rfl | (simp; done), HB.out⟩
      | true =>
        obtain rfl : l = true := HGL.out rfl
        go_wp2_with fail
        refine (EL.out _ (HT.out.below HB.out)).mono ?_
        rintro e w8 ⟨rfl, hb⟩
        have nHB := Lib.hid (belG HB.out hb HB.out.size)
        clear hb
        clear HB 
        have HB := nHB
        clear nHB 
        go_wp2_with fail
        go_ret
        exact ⟨by first | rfl | (simp; done), HB.out⟩
end Go.Proofs.Ytcdmkmmigajbnaa
