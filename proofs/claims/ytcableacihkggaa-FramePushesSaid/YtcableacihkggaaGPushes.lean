
/- FramePushes' walk. -/
import Derived.Test.YtcableacihkggaaJ23
namespace Go.Proofs.Ytcableacihkggaa
open Go.RowKit

set_option maxRecDepth 100000 in
set_option maxHeartbeats 4000000 in
theorem framePushes_walk (A : Option Addr) (l : List UInt8) (c : Nat) (s b : Int) (B : Option Addr) (v : List UInt8) (d : Nat) (W : World) (hc : l.length ≤ c) (hcm : c ≤ 9223372036854775807) (hr : Rd W W.heap.size A l) (_hs : -9223372036854775808 ≤ s ∧ s ≤ 9223372036854775807) (hb : -9223372036854775808 ≤ b ∧ b ≤ 9223372036854775807) (hd : v.length ≤ d) (hdm : d ≤ 9223372036854775807) (hr2 : Rd W W.heap.size B v) :
    Calls Try.prog 4 #[.agg #[.slice A l.length c, .int .i64 s, .int .i64 b], .slice B v.length d] W fun e W' => e = .returned (.bool true) ∧ Below W.heap.size W W' := by
  have R0 := Lib.hid hr
  have R1 := Lib.hid hr2
  have CR := Lib.hid (fun w (hB : Below W.heap.size W w) (h : Rd w w.heap.size A l) => refRight8_any A l c s b w h)
  by_cases hR : RightFd ⟨l, s, b⟩
  case neg =>
    rw [decide_eq_false hR] at CR
    clear hr hr2 hc hcm hd hdm hb _hs hR
    generalize v.length = q at *
    generalize l.length = n at *
    have hb := (Below.refl W.heap.size W).alloc (Nat.le_refl _) (.cells #[.slice A n c, .int .i64 s, .int .i64 b] 24)
    have hg := heap_alloc_new W (.cells #[.slice A n c, .int .i64 s, .int .i64 b] 24)
    obtain ⟨V0, hV⟩ : ∃ V, V = W.alloc (.cells #[.slice A n c, .int .i64 s, .int .i64 b] 24) := ⟨_, rfl⟩
    rw [← hV] at hb hg
    have HB := Lib.hid hb
    have G0 := Lib.hid hg
    have nR0 := Lib.hid ((R0.out.below hb (Nat.le_refl _)).more hb.size)
    have nR1 := Lib.hid ((R1.out.below hb (Nat.le_refl _)).more hb.size)
    have HV := Lib.hid hV
    clear hb hg hV
    clear R0 R1
    have R0 := nR0
    have R1 := nR1
    clear nR0 nR1
    go_enter Try.func4, Try.ntmps4
    go_wp2_with fail
    rw [← HV.out]
    clear HV
    refine (shown8_any _).mono ?_
    rintro e w1 ⟨rfl, hb⟩
    have nHB := Lib.hid (belG HB.out hb HB.out.size)
    have nR0 := Lib.hid ((R0.out.below hb (Nat.le_refl _)).more hb.size)
    have nR1 := Lib.hid ((R1.out.below hb (Nat.le_refl _)).more hb.size)
    have nG0 := Lib.hid (oldG G0.out hb (Nat.le_refl _))
    clear hb
    clear HB R0 R1 G0
    have HB := nHB
    have R0 := nR0
    have R1 := nR1
    have G0 := nG0
    clear nHB nR0 nR1 nG0
    obtain ⟨g0x, g0y, g0z⟩ := cG3 G0.out
    go_wp2_with fail
    clear g0x g0y g0z
    refine (CR.out _ HB.out R0.out).mono ?_
    rintro e w2 ⟨rfl, hb⟩
    have nHB := Lib.hid (belG HB.out hb HB.out.size)
    have nR0 := Lib.hid ((R0.out.below hb (Nat.le_refl _)).more hb.size)
    have nR1 := Lib.hid ((R1.out.below hb (Nat.le_refl _)).more hb.size)
    have nG0 := Lib.hid (oldG G0.out hb (Nat.le_refl _))
    clear hb
    clear HB R0 R1 G0
    have HB := nHB
    have R0 := nR0
    have R1 := nR1
    have G0 := nG0
    clear nHB nR0 nR1 nG0
    go_wp2_with fail
    go_ret
    exact ⟨rfl, HB.out⟩
  rw [decide_eq_true hR] at CR
  by_cases h2 : 2000 < v.length
  case pos =>
    have i0 : (2000 : Int) < (v.length : Int) := by omega
    clear hr hr2 hc hcm hd hdm hb _hs hR
    generalize v.length = q at *
    generalize l.length = n at *
    have hb := (Below.refl W.heap.size W).alloc (Nat.le_refl _) (.cells #[.slice A n c, .int .i64 s, .int .i64 b] 24)
    have hg := heap_alloc_new W (.cells #[.slice A n c, .int .i64 s, .int .i64 b] 24)
    obtain ⟨V0, hV⟩ : ∃ V, V = W.alloc (.cells #[.slice A n c, .int .i64 s, .int .i64 b] 24) := ⟨_, rfl⟩
    rw [← hV] at hb hg
    have HB := Lib.hid hb
    have G0 := Lib.hid hg
    have nR0 := Lib.hid ((R0.out.below hb (Nat.le_refl _)).more hb.size)
    have nR1 := Lib.hid ((R1.out.below hb (Nat.le_refl _)).more hb.size)
    have HV := Lib.hid hV
    clear hb hg hV
    clear R0 R1
    have R0 := nR0
    have R1 := nR1
    clear nR0 nR1
    go_enter Try.func4, Try.ntmps4
    go_wp2_with fail
    rw [← HV.out]
    clear HV
    refine (shown8_any _).mono ?_
    rintro e w1 ⟨rfl, hb⟩
    have nHB := Lib.hid (belG HB.out hb HB.out.size)
    have nR0 := Lib.hid ((R0.out.below hb (Nat.le_refl _)).more hb.size)
    have nR1 := Lib.hid ((R1.out.below hb (Nat.le_refl _)).more hb.size)
    have nG0 := Lib.hid (oldG G0.out hb (Nat.le_refl _))
    clear hb
    clear HB R0 R1 G0
    have HB := nHB
    have R0 := nR0
    have R1 := nR1
    have G0 := nG0
    clear nHB nR0 nR1 nG0
    obtain ⟨g0x, g0y, g0z⟩ := cG3 G0.out
    go_wp2_with fail
    clear g0x g0y g0z
    refine (CR.out _ HB.out R0.out).mono ?_
    rintro e w2 ⟨rfl, hb⟩
    have nHB := Lib.hid (belG HB.out hb HB.out.size)
    have nR0 := Lib.hid ((R0.out.below hb (Nat.le_refl _)).more hb.size)
    have nR1 := Lib.hid ((R1.out.below hb (Nat.le_refl _)).more hb.size)
    have nG0 := Lib.hid (oldG G0.out hb (Nat.le_refl _))
    clear hb
    clear HB R0 R1 G0
    have HB := nHB
    have R0 := nR0
    have R1 := nR1
    have G0 := nG0
    clear nHB nR0 nR1 nG0
    go_wp2_with fail
    go_ret
    exact ⟨rfl, HB.out⟩
  have i0 : ¬ (2000 : Int) < (v.length : Int) := by omega
  have hrows := push_len v ⟨l, s, b⟩
  have C1 := Lib.hid (fun w (hB : Below W.heap.size W w) (h : Rd w w.heap.size A l) (h2 : Rd w w.heap.size B v) => fPush_any A l c s b B v d w hR hc hcm hb h (by omega) hd hdm h2)
  have C2 := Lib.hid (fun w (hB : Below W.heap.size W w) (h : Rd w w.heap.size A l) (h2 : Rd w w.heap.size B v) => refPush_any A l c s b B v d w hR hc hcm h (by omega) h2)
  obtain ⟨X, hX⟩ : ∃ X, X = pushF ⟨l, s, b⟩ v := ⟨_, rfl⟩
  rw [← hX] at C1 C2 hrows
  have CS := Lib.hid (fun (A1 A2 : Option Addr) (c1 c2 : Nat) w (hB : Below W.heap.size W w) (h1 : Rd w w.heap.size A1 X.1.buf) (h2 : Rd w w.heap.size A2 X.1.buf) => refSame8_any A1 A2 X.1.buf X.1.buf c1 c2 X.1.skip X.1.bad X.1.skip X.1.bad w h1 h2)
  have CM := Lib.hid (fun (A1 A2 : Option Addr) (c1 c2 : Nat) w (hB : Below W.heap.size W w) (h1 : Mat w w.heap.size A1 X.2) (h2 : Mat w w.heap.size A2 X.2) => rows2_any A1 A2 X.2 X.2 c1 c2 w h1 h2 (by omega) (by omega))
  simp only [and_self, decide_true] at CS CM
  unfold AnsPush at C1 C2
  clear hr hr2 hc hcm hd hdm hb _hs hR hX h2 hrows
  generalize X.1.buf.length = nb at *
  generalize X.2.length = nr at *
  generalize X.1.buf = XB at *
  generalize X.1.skip = XS at *
  generalize X.1.bad = XD at *
  generalize X.2 = XR at *
  generalize v.length = q at *
  generalize l.length = n at *
  have hb := (Below.refl W.heap.size W).alloc (Nat.le_refl _) (.cells #[.slice A n c, .int .i64 s, .int .i64 b] 24)
  have hg := heap_alloc_new W (.cells #[.slice A n c, .int .i64 s, .int .i64 b] 24)
  obtain ⟨V0, hV⟩ : ∃ V, V = W.alloc (.cells #[.slice A n c, .int .i64 s, .int .i64 b] 24) := ⟨_, rfl⟩
  rw [← hV] at hb hg
  have HB := Lib.hid hb
  have G0 := Lib.hid hg
  have nR0 := Lib.hid ((R0.out.below hb (Nat.le_refl _)).more hb.size)
  have nR1 := Lib.hid ((R1.out.below hb (Nat.le_refl _)).more hb.size)
  have HV := Lib.hid hV
  clear hb hg hV
  clear R0 R1
  have R0 := nR0
  have R1 := nR1
  clear nR0 nR1
  go_enter Try.func4, Try.ntmps4
  go_wp2_with fail
  rw [← HV.out]
  clear HV
  refine (shown8_any _).mono ?_
  rintro e w1 ⟨rfl, hb⟩
  have nHB := Lib.hid (belG HB.out hb HB.out.size)
  have nR0 := Lib.hid ((R0.out.below hb (Nat.le_refl _)).more hb.size)
  have nR1 := Lib.hid ((R1.out.below hb (Nat.le_refl _)).more hb.size)
  have nG0 := Lib.hid (oldG G0.out hb (Nat.le_refl _))
  clear hb
  clear HB R0 R1 G0
  have HB := nHB
  have R0 := nR0
  have R1 := nR1
  have G0 := nG0
  clear nHB nR0 nR1 nG0
  obtain ⟨g0x, g0y, g0z⟩ := cG3 G0.out
  go_wp2_with fail
  clear g0x g0y g0z
  refine (CR.out _ HB.out R0.out).mono ?_
  rintro e w2 ⟨rfl, hb⟩
  have nHB := Lib.hid (belG HB.out hb HB.out.size)
  have nR0 := Lib.hid ((R0.out.below hb (Nat.le_refl _)).more hb.size)
  have nR1 := Lib.hid ((R1.out.below hb (Nat.le_refl _)).more hb.size)
  have nG0 := Lib.hid (oldG G0.out hb (Nat.le_refl _))
  clear hb
  clear HB R0 R1 G0
  have HB := nHB
  have R0 := nR0
  have R1 := nR1
  have G0 := nG0
  clear nHB nR0 nR1 nG0
  obtain ⟨g0x, g0y, g0z⟩ := cG3 G0.out
  go_wp2_with fail
  clear g0x g0y g0z
  refine (C1.out _ HB.out R0.out R1.out).mono ?_
  rintro e w3 ⟨⟨A1, c1, A2, c2, rfl, -, -, h1, -, -, h2⟩, hb⟩
  have nHB := Lib.hid (belG HB.out hb HB.out.size)
  have nR0 := Lib.hid ((R0.out.below hb (Nat.le_refl _)).more hb.size)
  have nR1 := Lib.hid ((R1.out.below hb (Nat.le_refl _)).more hb.size)
  have nG0 := Lib.hid (oldG G0.out hb (Nat.le_refl _))
  clear hb
  clear HB R0 R1 G0
  have HB := nHB
  have R0 := nR0
  have R1 := nR1
  have G0 := nG0
  clear nHB nR0 nR1 nG0
  have R2 := Lib.hid h1
  have R3 := Lib.hid h2
  clear h1 h2
  obtain ⟨V3, hV3⟩ : ∃ V, V = w3.alloc (.cells #[.slice A1 nb c1, .int .i64 XS, .int .i64 XD] 24) := ⟨_, rfl⟩
  have ha := (Below.refl w3.heap.size w3).alloc (Nat.le_refl _) (.cells #[.slice A1 nb c1, .int .i64 XS, .int .i64 XD] 24)
  have hg := heap_alloc_new w3 (.cells #[.slice A1 nb c1, .int .i64 XS, .int .i64 XD] 24)
  have nHB := Lib.hid (HB.out.alloc HB.out.size (.cells #[.slice A1 nb c1, .int .i64 XS, .int .i64 XD] 24))
  rw [← hV3] at ha hg nHB
  have nR0 := Lib.hid ((R0.out.below ha (Nat.le_refl _)).more ha.size)
  have nR1 := Lib.hid ((R1.out.below ha (Nat.le_refl _)).more ha.size)
  have nR2 := Lib.hid ((R2.out.below ha (Nat.le_refl _)).more ha.size)
  have nR3 := Lib.hid ((R3.out.below ha (Nat.le_refl _)).more ha.size)
  have nG0 := Lib.hid (oldG G0.out ha (Nat.le_refl _))
  obtain ⟨g1, hg1⟩ : ∃ g, g = w3.heap.size := ⟨_, rfl⟩
  rw [← hg1] at hg
  have HXG1 := Lib.hid hg1
  have G1 := Lib.hid hg
  have HV := Lib.hid hV3
  clear ha hg hV3 hg1
  clear HB R0 R1 R2 R3 G0
  have HB := nHB
  have R0 := nR0
  have R1 := nR1
  have R2 := nR2
  have R3 := nR3
  have G0 := nG0
  clear nHB nR0 nR1 nR2 nR3 nG0
  obtain ⟨g0x, g0y, g0z⟩ := cG3 G0.out
  rw [HV.out] at g0x g0y g0z
  go_wp2_with fail
  clear g0x g0y g0z
  rw [← HV.out]
  (try rw [← HXG1.out])
  clear HV HXG1
  refine (C2.out _ HB.out R0.out R1.out).mono ?_
  rintro e w4 ⟨⟨A3, c3, A4, c4, rfl, -, -, h1, -, -, h2⟩, hb⟩
  have nHB := Lib.hid (belG HB.out hb HB.out.size)
  have nR0 := Lib.hid ((R0.out.below hb (Nat.le_refl _)).more hb.size)
  have nR1 := Lib.hid ((R1.out.below hb (Nat.le_refl _)).more hb.size)
  have nR2 := Lib.hid ((R2.out.below hb (Nat.le_refl _)).more hb.size)
  have nR3 := Lib.hid ((R3.out.below hb (Nat.le_refl _)).more hb.size)
  have nG0 := Lib.hid (oldG G0.out hb (Nat.le_refl _))
  have nG1 := Lib.hid (oldG G1.out hb (Nat.le_refl _))
  clear hb
  clear HB R0 R1 R2 R3 G0 G1
  have HB := nHB
  have R0 := nR0
  have R1 := nR1
  have R2 := nR2
  have R3 := nR3
  have G0 := nG0
  have G1 := nG1
  clear nHB nR0 nR1 nR2 nR3 nG0 nG1
  have R4 := Lib.hid h1
  have R5 := Lib.hid h2
  clear h1 h2
  obtain ⟨V4, hV4⟩ : ∃ V, V = w4.alloc (.cells #[.slice A3 nb c3, .int .i64 XS, .int .i64 XD] 24) := ⟨_, rfl⟩
  have ha := (Below.refl w4.heap.size w4).alloc (Nat.le_refl _) (.cells #[.slice A3 nb c3, .int .i64 XS, .int .i64 XD] 24)
  have hg := heap_alloc_new w4 (.cells #[.slice A3 nb c3, .int .i64 XS, .int .i64 XD] 24)
  have nHB := Lib.hid (HB.out.alloc HB.out.size (.cells #[.slice A3 nb c3, .int .i64 XS, .int .i64 XD] 24))
  rw [← hV4] at ha hg nHB
  have nR0 := Lib.hid ((R0.out.below ha (Nat.le_refl _)).more ha.size)
  have nR1 := Lib.hid ((R1.out.below ha (Nat.le_refl _)).more ha.size)
  have nR2 := Lib.hid ((R2.out.below ha (Nat.le_refl _)).more ha.size)
  have nR3 := Lib.hid ((R3.out.below ha (Nat.le_refl _)).more ha.size)
  have nR4 := Lib.hid ((R4.out.below ha (Nat.le_refl _)).more ha.size)
  have nR5 := Lib.hid ((R5.out.below ha (Nat.le_refl _)).more ha.size)
  have nG0 := Lib.hid (oldG G0.out ha (Nat.le_refl _))
  have nG1 := Lib.hid (oldG G1.out ha (Nat.le_refl _))
  obtain ⟨g2, hg2⟩ : ∃ g, g = w4.heap.size := ⟨_, rfl⟩
  rw [← hg2] at hg
  have HXG2 := Lib.hid hg2
  have G2 := Lib.hid hg
  have HV := Lib.hid hV4
  clear ha hg hV4 hg2
  clear HB R0 R1 R2 R3 R4 R5 G0 G1
  have HB := nHB
  have R0 := nR0
  have R1 := nR1
  have R2 := nR2
  have R3 := nR3
  have R4 := nR4
  have R5 := nR5
  have G0 := nG0
  have G1 := nG1
  clear nHB nR0 nR1 nR2 nR3 nR4 nR5 nG0 nG1
  obtain ⟨g1x, g1y, g1z⟩ := cG3 G1.out
  rw [HV.out] at g1x g1y g1z
  obtain ⟨g2x, g2y, g2z⟩ := cG3 G2.out
  rw [HV.out] at g2x g2y g2z
  rw [HXG2.out] at g2x g2y g2z
  go_wp2_with fail
  clear g1x g1y g1z g2x g2y g2z
  rw [← HV.out]
  (try rw [← HXG2.out])
  clear HV HXG2
  refine (CS.out A1 A3 c1 c3 _ HB.out R2.out R4.out).mono ?_
  rintro e w5 ⟨rfl, hb⟩
  have nHB := Lib.hid (belG HB.out hb HB.out.size)
  have nR0 := Lib.hid ((R0.out.below hb (Nat.le_refl _)).more hb.size)
  have nR1 := Lib.hid ((R1.out.below hb (Nat.le_refl _)).more hb.size)
  have nR2 := Lib.hid ((R2.out.below hb (Nat.le_refl _)).more hb.size)
  have nR3 := Lib.hid ((R3.out.below hb (Nat.le_refl _)).more hb.size)
  have nR4 := Lib.hid ((R4.out.below hb (Nat.le_refl _)).more hb.size)
  have nR5 := Lib.hid ((R5.out.below hb (Nat.le_refl _)).more hb.size)
  have nG0 := Lib.hid (oldG G0.out hb (Nat.le_refl _))
  have nG1 := Lib.hid (oldG G1.out hb (Nat.le_refl _))
  have nG2 := Lib.hid (oldG G2.out hb (Nat.le_refl _))
  clear hb
  clear HB R0 R1 R2 R3 R4 R5 G0 G1 G2
  have HB := nHB
  have R0 := nR0
  have R1 := nR1
  have R2 := nR2
  have R3 := nR3
  have R4 := nR4
  have R5 := nR5
  have G0 := nG0
  have G1 := nG1
  have G2 := nG2
  clear nHB nR0 nR1 nR2 nR3 nR4 nR5 nG0 nG1 nG2
  go_wp2_with fail
  refine (CM.out A2 A4 c2 c4 _ HB.out R3.out R5.out).mono ?_
  rintro e w6 ⟨rfl, hb⟩
  have nHB := Lib.hid (belG HB.out hb HB.out.size)
  have nR0 := Lib.hid ((R0.out.below hb (Nat.le_refl _)).more hb.size)
  have nR1 := Lib.hid ((R1.out.below hb (Nat.le_refl _)).more hb.size)
  have nR2 := Lib.hid ((R2.out.below hb (Nat.le_refl _)).more hb.size)
  have nR3 := Lib.hid ((R3.out.below hb (Nat.le_refl _)).more hb.size)
  have nR4 := Lib.hid ((R4.out.below hb (Nat.le_refl _)).more hb.size)
  have nR5 := Lib.hid ((R5.out.below hb (Nat.le_refl _)).more hb.size)
  have nG0 := Lib.hid (oldG G0.out hb (Nat.le_refl _))
  have nG1 := Lib.hid (oldG G1.out hb (Nat.le_refl _))
  have nG2 := Lib.hid (oldG G2.out hb (Nat.le_refl _))
  clear hb
  clear HB R0 R1 R2 R3 R4 R5 G0 G1 G2
  have HB := nHB
  have R0 := nR0
  have R1 := nR1
  have R2 := nR2
  have R3 := nR3
  have R4 := nR4
  have R5 := nR5
  have G0 := nG0
  have G1 := nG1
  have G2 := nG2
  clear nHB nR0 nR1 nR2 nR3 nR4 nR5 nG0 nG1 nG2
  go_wp2_with fail
  go_ret
  exact ⟨by first | rfl | simp, HB.out⟩
end Go.Proofs.Ytcableacihkggaa
