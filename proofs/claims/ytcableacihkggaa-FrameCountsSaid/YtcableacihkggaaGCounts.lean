
/- FrameCounts' walk. -/
import Derived.Test.YtcableacihkggaaJ24
import Derived.Deep.QuietTactic
import Derived.BigQuiet
namespace Go.Proofs.Ytcableacihkggaa
open Go.RowKit

set_option maxRecDepth 100000 in
set_option maxHeartbeats 4000000 in
theorem frameCounts_walk (A : Option Addr) (l : List UInt8) (c : Nat) (s b : Int) (B : Option Addr) (v : List UInt8) (d : Nat) (W : World) (hc : l.length ≤ c) (hcm : c ≤ 9223372036854775807) (hr : Rd W W.heap.size A l) (_hs : -9223372036854775808 ≤ s ∧ s ≤ 9223372036854775807) (hb : -9223372036854775808 ≤ b ∧ b ≤ 9223372036854775807) (hd : v.length ≤ d) (hdm : d ≤ 9223372036854775807) (hr2 : Rd W W.heap.size B v) :
    Calls Try.prog 7 #[.agg #[.slice A l.length c, .int .i64 s, .int .i64 b], .slice B v.length d] W fun e W' => e = .returned (.bool true) ∧ Below W.heap.size W W' := by
  have R0 := Lib.hid hr
  have R1 := Lib.hid hr2
  have CR := Lib.hid (fun w (hB : Below W.heap.size W w) (h : Rd w w.heap.size A l) => refRight8_any A l c s b w h)
  by_cases hR : RightFd ⟨l, s, b⟩
  case neg =>
    rw [decide_eq_false hR] at CR
    clear hr hr2 hc hcm hd hdm hb _hs hR
    generalize v.length = q at *
    generalize l.length = n at *
    have hb := (Below.refl W.heap.size W).alloc (Nat.le_refl _) (.cells #[.slice A n c, .int .i64 s, .int .i64 b] 24)
    have hg := heap_alloc_new W (.cells #[.slice A n c, .int .i64 s, .int .i64 b] 24)
    obtain ⟨V0, hV⟩ : ∃ V, V = W.alloc (.cells #[.slice A n c, .int .i64 s, .int .i64 b] 24) := ⟨_, rfl⟩
    rw [← hV] at hb hg
    have HB := Lib.hid hb
    have G0 := Lib.hid hg
    have nR0 := Lib.hid ((R0.out.below hb (Nat.le_refl _)).more hb.size)
    have nR1 := Lib.hid ((R1.out.below hb (Nat.le_refl _)).more hb.size)
    have HV := Lib.hid hV
    clear hb hg hV
    clear R0 R1
    have R0 := nR0
    have R1 := nR1
    clear nR0 nR1
    go_enter Try.func7, Try.ntmps7
    go_wp2_with fail
    rw [← HV.out]
    clear HV
    refine (shown8_any _).mono ?_
    rintro e w1 ⟨rfl, hb⟩
    have nHB := Lib.hid (belG HB.out hb HB.out.size)
    have nR0 := Lib.hid ((R0.out.below hb (Nat.le_refl _)).more hb.size)
    have nR1 := Lib.hid ((R1.out.below hb (Nat.le_refl _)).more hb.size)
    have nG0 := Lib.hid (oldG G0.out hb (Nat.le_refl _))
    clear hb
    clear HB R0 R1 G0
    have HB := nHB
    have R0 := nR0
    have R1 := nR1
    have G0 := nG0
    clear nHB nR0 nR1 nG0
    obtain ⟨g0x, g0y, g0z⟩ := cG3 G0.out
    go_wp2_with fail
    clear g0x g0y g0z
    refine (CR.out _ HB.out R0.out).mono ?_
    rintro e w2 ⟨rfl, hb⟩
    have nHB := Lib.hid (belG HB.out hb HB.out.size)
    have nR0 := Lib.hid ((R0.out.below hb (Nat.le_refl _)).more hb.size)
    have nR1 := Lib.hid ((R1.out.below hb (Nat.le_refl _)).more hb.size)
    have nG0 := Lib.hid (oldG G0.out hb (Nat.le_refl _))
    clear hb
    clear HB R0 R1 G0
    have HB := nHB
    have R0 := nR0
    have R1 := nR1
    have G0 := nG0
    clear nHB nR0 nR1 nG0
    go_wp2_with fail
    go_ret
    exact ⟨rfl, HB.out⟩
  rw [decide_eq_true hR] at CR
  by_cases h2 : 2000 < v.length
  case pos =>
    have i0 : (2000 : Int) < (v.length : Int) := by omega
    clear hr hr2 hc hcm hd hdm hb _hs hR
    generalize v.length = q at *
    generalize l.length = n at *
    have hb := (Below.refl W.heap.size W).alloc (Nat.le_refl _) (.cells #[.slice A n c, .int .i64 s, .int .i64 b] 24)
    have hg := heap_alloc_new W (.cells #[.slice A n c, .int .i64 s, .int .i64 b] 24)
    obtain ⟨V0, hV⟩ : ∃ V, V = W.alloc (.cells #[.slice A n c, .int .i64 s, .int .i64 b] 24) := ⟨_, rfl⟩
    rw [← hV] at hb hg
    have HB := Lib.hid hb
    have G0 := Lib.hid hg
    have nR0 := Lib.hid ((R0.out.below hb (Nat.le_refl _)).more hb.size)
    have nR1 := Lib.hid ((R1.out.below hb (Nat.le_refl _)).more hb.size)
    have HV := Lib.hid hV
    clear hb hg hV
    clear R0 R1
    have R0 := nR0
    have R1 := nR1
    clear nR0 nR1
    go_enter Try.func7, Try.ntmps7
    go_wp2_with fail
    rw [← HV.out]
    clear HV
    refine (shown8_any _).mono ?_
    rintro e w1 ⟨rfl, hb⟩
    have nHB := Lib.hid (belG HB.out hb HB.out.size)
    have nR0 := Lib.hid ((R0.out.below hb (Nat.le_refl _)).more hb.size)
    have nR1 := Lib.hid ((R1.out.below hb (Nat.le_refl _)).more hb.size)
    have nG0 := Lib.hid (oldG G0.out hb (Nat.le_refl _))
    clear hb
    clear HB R0 R1 G0
    have HB := nHB
    have R0 := nR0
    have R1 := nR1
    have G0 := nG0
    clear nHB nR0 nR1 nG0
    obtain ⟨g0x, g0y, g0z⟩ := cG3 G0.out
    go_wp2_with fail
    clear g0x g0y g0z
    refine (CR.out _ HB.out R0.out).mono ?_
    rintro e w2 ⟨rfl, hb⟩
    have nHB := Lib.hid (belG HB.out hb HB.out.size)
    have nR0 := Lib.hid ((R0.out.below hb (Nat.le_refl _)).more hb.size)
    have nR1 := Lib.hid ((R1.out.below hb (Nat.le_refl _)).more hb.size)
    have nG0 := Lib.hid (oldG G0.out hb (Nat.le_refl _))
    clear hb
    clear HB R0 R1 G0
    have HB := nHB
    have R0 := nR0
    have R1 := nR1
    have G0 := nG0
    clear nHB nR0 nR1 nG0
    go_wp2_with fail
    go_ret
    exact ⟨rfl, HB.out⟩
  have i0 : ¬ (2000 : Int) < (v.length : Int) := by omega
  have hrows := push_len v ⟨l, s, b⟩
  have hlen := hR.len
  have hbyt := push_rows v hR
  have hrx := right_push v hR
  have hrxl := hrx.short
  obtain ⟨k, S, hk1, hk2, hk3, hk4, hk5⟩ := push_counts v ⟨l, s, b⟩ hR
  obtain ⟨hw1, hw2⟩ := incN_sub k (by omega) b hb
  simp only at hk2 hk4 hk5
  rw [← hk2] at hw1 hw2
  have hs0 := hR.1
  have hs9 := hR.2.1
  have hx0 := hrx.1
  have hx9 := hrx.2.1
  simp only at hs0 hs9
  have C1 := Lib.hid (fun w (hB : Below W.heap.size W w) (h : Rd w w.heap.size A l) (h2 : Rd w w.heap.size B v) => fPush_any A l c s b B v d w hR hc hcm hb h (by omega) hd hdm h2)
  have hxb := push_bad64 v ⟨l, s, b⟩ hb
  obtain ⟨X, hX⟩ : ∃ X, X = pushF ⟨l, s, b⟩ v := ⟨_, rfl⟩
  rw [← hX] at C1 hrows hbyt hk4 hk5 hw1 hw2 hx0 hx9 hrxl hxb
  have CP := Lib.hid (fun (A1 : Option Addr) (c1 : Nat) w (hB : Below W.heap.size W w) (h1 : Mat w w.heap.size A1 X.2) => packed_any A1 X.2 c1 w (by omega) (by omega) h1)
  unfold AnsPush at C1
  have HBY := Lib.hid (fun (j : Nat) (h : j < X.2.length) => hbyt _ (List.getElem_mem h))
  have HNR := Lib.hid (show ∀ z, z = X.2.length → z = X.2.length from fun _ h => h)
  clear hX hrx hk1 hk2 hbyt hR h2 hr hr2 hc hcm hd hdm hb _hs
  generalize X.1.buf.length = nb at *
  obtain ⟨nr, hnr⟩ : ∃ nr, nr = X.2.length := ⟨_, rfl⟩
  have HNRE := Lib.hid hnr
  rw [← hnr] at C1 CP hrows
  clear hnr HNR
  obtain ⟨P, hP⟩ : ∃ P, P = packN X.2 := ⟨_, rfl⟩
  rw [← hP] at CP hk4 hk5
  clear hP
  generalize X.1.buf = XB at *
  generalize X.1.skip = XS at *
  generalize X.1.bad = XD at *
  generalize X.2 = XR at *
  generalize v.length = q at *
  generalize l.length = n at *
  have hb := (Below.refl W.heap.size W).alloc (Nat.le_refl _) (.cells #[.slice A n c, .int .i64 s, .int .i64 b] 24)
  have hg := heap_alloc_new W (.cells #[.slice A n c, .int .i64 s, .int .i64 b] 24)
  obtain ⟨V0, hV⟩ : ∃ V, V = W.alloc (.cells #[.slice A n c, .int .i64 s, .int .i64 b] 24) := ⟨_, rfl⟩
  rw [← hV] at hb hg
  have HB := Lib.hid hb
  have G0 := Lib.hid hg
  have nR0 := Lib.hid ((R0.out.below hb (Nat.le_refl _)).more hb.size)
  have nR1 := Lib.hid ((R1.out.below hb (Nat.le_refl _)).more hb.size)
  have HV := Lib.hid hV
  clear hb hg hV
  clear R0 R1
  have R0 := nR0
  have R1 := nR1
  clear nR0 nR1
  go_enter Try.func7, Try.ntmps7
  go_wp2_with fail
  rw [← HV.out]
  clear HV
  refine (shown8_any _).mono ?_
  rintro e w1 ⟨rfl, hb⟩
  have nHB := Lib.hid (belG HB.out hb HB.out.size)
  have nR0 := Lib.hid ((R0.out.below hb (Nat.le_refl _)).more hb.size)
  have nR1 := Lib.hid ((R1.out.below hb (Nat.le_refl _)).more hb.size)
  have nG0 := Lib.hid (oldG G0.out hb (Nat.le_refl _))
  clear hb
  clear HB R0 R1 G0
  have HB := nHB
  have R0 := nR0
  have R1 := nR1
  have G0 := nG0
  clear nHB nR0 nR1 nG0
  obtain ⟨g0x, g0y, g0z⟩ := cG3 G0.out
  go_wp2_with fail
  clear g0x g0y g0z
  refine (CR.out _ HB.out R0.out).mono ?_
  rintro e w2 ⟨rfl, hb⟩
  have nHB := Lib.hid (belG HB.out hb HB.out.size)
  have nR0 := Lib.hid ((R0.out.below hb (Nat.le_refl _)).more hb.size)
  have nR1 := Lib.hid ((R1.out.below hb (Nat.le_refl _)).more hb.size)
  have nG0 := Lib.hid (oldG G0.out hb (Nat.le_refl _))
  clear hb
  clear HB R0 R1 G0
  have HB := nHB
  have R0 := nR0
  have R1 := nR1
  have G0 := nG0
  clear nHB nR0 nR1 nG0
  obtain ⟨g0x, g0y, g0z⟩ := cG3 G0.out
  go_wp2_with fail
  clear g0x g0y g0z
  refine (C1.out _ HB.out R0.out R1.out).mono ?_
  rintro e w3 ⟨⟨A1, c1, A2, c2, rfl, -, -, -, -, -, h2⟩, hb⟩
  have nHB := Lib.hid (belG HB.out hb HB.out.size)
  have nR0 := Lib.hid ((R0.out.below hb (Nat.le_refl _)).more hb.size)
  have nR1 := Lib.hid ((R1.out.below hb (Nat.le_refl _)).more hb.size)
  have nG0 := Lib.hid (oldG G0.out hb (Nat.le_refl _))
  clear hb
  clear HB R0 R1 G0
  have HB := nHB
  have R0 := nR0
  have R1 := nR1
  have G0 := nG0
  clear nHB nR0 nR1 nG0
  have R3 := Lib.hid h2
  clear h2
  obtain ⟨V3, hV3⟩ : ∃ V, V = w3.alloc (.cells #[.slice A1 nb c1, .int .i64 XS, .int .i64 XD] 24) := ⟨_, rfl⟩
  have ha := (Below.refl w3.heap.size w3).alloc (Nat.le_refl _) (.cells #[.slice A1 nb c1, .int .i64 XS, .int .i64 XD] 24)
  have hg := heap_alloc_new w3 (.cells #[.slice A1 nb c1, .int .i64 XS, .int .i64 XD] 24)
  have nHB := Lib.hid (HB.out.alloc HB.out.size (.cells #[.slice A1 nb c1, .int .i64 XS, .int .i64 XD] 24))
  rw [← hV3] at ha hg nHB
  have nR0 := Lib.hid ((R0.out.below ha (Nat.le_refl _)).more ha.size)
  have nR1 := Lib.hid ((R1.out.below ha (Nat.le_refl _)).more ha.size)
  have nR3 := Lib.hid ((R3.out.below ha (Nat.le_refl _)).more ha.size)
  have nG0 := Lib.hid (oldG G0.out ha (Nat.le_refl _))
  obtain ⟨g1, hg1⟩ : ∃ g, g = w3.heap.size := ⟨_, rfl⟩
  rw [← hg1] at hg
  have HXG1 := Lib.hid hg1
  have G1 := Lib.hid hg
  have HV := Lib.hid hV3
  clear ha hg hV3 hg1
  clear HB R0 R1 R3 G0
  have HB := nHB
  have R0 := nR0
  have R1 := nR1
  have R3 := nR3
  have G0 := nG0
  clear nHB nR0 nR1 nR3 nG0
  go_wp2_with fail
  rw [← HV.out]
  (try rw [← HXG1.out])
  clear HV HXG1
  go_loop [8] (fun i => ∃ j : Nat, j ≤ nr ∧ i = .int .i64 j) (fun i => nr - (intOf i).toNat)
  case atStart => exact ⟨0, Nat.zero_le _, rfl⟩
  case round =>
    obtain ⟨j, hj, rfl⟩ := hrel
    by_cases hlt : j < nr
    · have hj1 : j < XR.length := by rw [← HNRE.out]; exact hlt
      obtain ⟨b1, o1, rfl, hb1, hrow⟩ := R3.out (by omega)
      obtain ⟨A3, c3, x0, -, -, -⟩ := hrow j hj1
      have hm := HBY.out j hj1
      have hji : (j : Int) < (nr : Int) := by omega
      have hj0 : (0 : Int) ≤ (j : Int) := Int.natCast_nonneg _
      generalize XR[j].length = m at *
      have k1 : ¬ (m : Int) < 1 := by omega
      have k2 : ¬ (1024 : Int) < (m : Int) := by omega
      clear hrow hb1 hm
      go_wp2
      go_round
      case rel => exact ⟨j + 1, by omega, by go_num⟩
      case measure => simp [intOf]; omega
    · have hji : ¬ (j : Int) < (nr : Int) := by omega
      have hj9 : j = nr := by omega
      subst hj9
      have CPq := Lib.hid (fun i => (CP.out A2 c2 (V3.drewN i) (below_drewN HB.out i) (R3.out.below (below_drewN (Below.refl _ _) i) (Nat.le_refl _))).mono (fun e w' h => (show e = .returned (.int .i64 (P : Nat)) ∧ w' = V3.drewN i from h)))
      obtain ⟨x0, x1, x2⟩ := cG3 G0.out
      obtain ⟨y0, y1, y2⟩ := cG3 G1.out
      by_cases hXD : XD = b
      · have k0 : k = 0 := hw2.1 hXD
        have S0 := hk3 k0
        subst k0 S0
        have z1 : (XD == b) = true := by simpa using hXD
        clear hw1 hw2 hk3
        go_wp2
        go_quiet (exact (CPq.out _).mono (fun e w' h => ⟨h.1, _, h.2⟩))
        go_wp2
        go_ret
        exact ⟨by first | (simp; done) | (simp; omega), below_drewN HB.out _⟩
      · have k0 : k ≠ 0 := fun h => hXD (hw2.2 h)
        have z1 : (XD == b) = false := by simpa using hXD
        clear hw2 hk3
        go_wp2
        go_quiet (exact (CPq.out _).mono (fun e w' h => ⟨h.1, _, h.2⟩))
        go_wp2
        go_ret
        exact ⟨by first | (simp; done) | (simp; omega), below_drewN HB.out _⟩
end Go.Proofs.Ytcableacihkggaa
