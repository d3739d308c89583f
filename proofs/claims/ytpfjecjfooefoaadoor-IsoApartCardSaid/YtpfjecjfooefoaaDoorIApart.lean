
/- IsoApart's walk. -/
import Derived.Test.YtpfjecjfooefoaaDoorJ40
namespace Go.Proofs.YtpfjecjfooefoaaDoor
open Go.RowKit

set_option maxRecDepth 100000 in
set_option maxHeartbeats 4000000 in
theorem isoApart_walk (t : Int) (A : Option Addr) (l : List Fl) (c : Nat) (u : Int) (B : Option Addr) (k : List Fl) (d : Nat) (W : World) (ht : -9223372036854775808 ≤ t ∧ t ≤ 9223372036854775807) (hc : l.length ≤ c) (hcm : c ≤ 9223372036854775807) (hz : I64f l) (hr : RdF W W.heap.size A l) (ht2 : -9223372036854775808 ≤ u ∧ u ≤ 9223372036854775807) (hc2 : k.length ≤ d) (hcm2 : d ≤ 9223372036854775807) (hz2 : I64f k) (hr2 : RdF W W.heap.size B k) (hT : Tb W) :
    Calls Tryd.prog 9 #[.agg #[.int .i64 t, .slice A l.length c], .agg #[.int .i64 u, .slice B k.length d]] W fun e W' => e = .returned (.bool true) ∧ Below W.heap.size W W' := by
  have HT := Lib.hid hT
  have R0 := Lib.hid hr
  have R1 := Lib.hid hr2
  have CF := Lib.hid (fun w (hB : Below W.heap.size W w) (h : RdF w w.heap.size A l) => refFew_any t A l c w hc hcm h)
  have CF2 := Lib.hid (fun w (hB : Below W.heap.size W w) (h2 : RdF w w.heap.size B k) => refFew_any u B k d w hc2 hcm2 h2)
  by_cases hF : fewF l = true
  case neg =>
    rw [Bool.not_eq_true] at hF
    rw [hF] at CF
    clear hr hr2 hc hc2 hz hz2 hcm hcm2
    obtain ⟨n, hn⟩ : ∃ n, n = l.length := ⟨_, rfl⟩
    obtain ⟨m, hm'⟩ : ∃ n, n = k.length := ⟨_, rfl⟩
    rw [← hn] at CF
    rw [← hm'] at CF2
    rw [← hn, ← hm']
    clear hn hm'
    obtain ⟨V0, hV, hb, hg, hg2⟩ := box2 W #[.int .i64 t, .slice A n c] #[.int .i64 u, .slice B m d] 24 24
    have HB := Lib.hid hb
    have G0 := Lib.hid hg
    have G1 := Lib.hid hg2
    have nR0 := Lib.hid ((R0.out.below hb (Nat.le_refl _)).more hb.size)
    have nR1 := Lib.hid ((R1.out.below hb (Nat.le_refl _)).more hb.size)
    have HV := Lib.hid hV
    clear hb hg hg2 hV
    clear R0 R1
    have R0 := nR0
    have R1 := nR1
    clear nR0 nR1
    go_enter Tryd.func9, Tryd.ntmps9
    go_wp2_with fail
    rw [← HV.out]
    clear HV
    refine (shown7_any _ (HT.out.below HB.out)).mono ?_
    rintro e w1 ⟨rfl, hb⟩
    have nHB := Lib.hid (belG HB.out hb HB.out.size)
    have nR0 := Lib.hid ((R0.out.below hb (Nat.le_refl _)).more hb.size)
    have nR1 := Lib.hid ((R1.out.below hb (Nat.le_refl _)).more hb.size)
    have nG0 := Lib.hid (oldG G0.out hb (Nat.le_refl _))
    have nG1 := Lib.hid (oldG G1.out hb (Nat.le_refl _))
    clear hb
    clear HB R0 R1 G0 G1
    have HB := nHB
    have R0 := nR0
    have R1 := nR1
    have G0 := nG0
    have G1 := nG1
    clear nHB nR0 nR1 nG0 nG1
    obtain ⟨g0x, g0y⟩ := cG2 G0.out
    go_wp2_with fail
    clear g0x g0y
    refine (CF.out _ HB.out R0.out).mono ?_
    rintro e w2 ⟨rfl, hb⟩
    have nHB := Lib.hid (belG HB.out hb HB.out.size)
    have nR0 := Lib.hid ((R0.out.below hb (Nat.le_refl _)).more hb.size)
    have nR1 := Lib.hid ((R1.out.below hb (Nat.le_refl _)).more hb.size)
    have nG0 := Lib.hid (oldG G0.out hb (Nat.le_refl _))
    have nG1 := Lib.hid (oldG G1.out hb (Nat.le_refl _))
    clear hb
    clear HB R0 R1 G0 G1
    have HB := nHB
    have R0 := nR0
    have R1 := nR1
    have G0 := nG0
    have G1 := nG1
    clear nHB nR0 nR1 nG0 nG1
    go_wp2_with fail
    go_ret
    exact ⟨rfl, HB.out⟩
  rw [hF] at CF
  by_cases hF2 : fewF k = true
  case neg =>
    rw [Bool.not_eq_true] at hF2
    rw [hF2] at CF2
    clear hr hr2 hc hc2 hz hz2 hcm hcm2
    obtain ⟨n, hn⟩ : ∃ n, n = l.length := ⟨_, rfl⟩
    obtain ⟨m, hm'⟩ : ∃ n, n = k.length := ⟨_, rfl⟩
    rw [← hn] at CF
    rw [← hm'] at CF2
    rw [← hn, ← hm']
    clear hn hm'
    obtain ⟨V0, hV, hb, hg, hg2⟩ := box2 W #[.int .i64 t, .slice A n c] #[.int .i64 u, .slice B m d] 24 24
    have HB := Lib.hid hb
    have G0 := Lib.hid hg
    have G1 := Lib.hid hg2
    have nR0 := Lib.hid ((R0.out.below hb (Nat.le_refl _)).more hb.size)
    have nR1 := Lib.hid ((R1.out.below hb (Nat.le_refl _)).more hb.size)
    have HV := Lib.hid hV
    clear hb hg hg2 hV
    clear R0 R1
    have R0 := nR0
    have R1 := nR1
    clear nR0 nR1
    go_enter Tryd.func9, Tryd.ntmps9
    go_wp2_with fail
    rw [← HV.out]
    clear HV
    refine (shown7_any _ (HT.out.below HB.out)).mono ?_
    rintro e w1 ⟨rfl, hb⟩
    have nHB := Lib.hid (belG HB.out hb HB.out.size)
    have nR0 := Lib.hid ((R0.out.below hb (Nat.le_refl _)).more hb.size)
    have nR1 := Lib.hid ((R1.out.below hb (Nat.le_refl _)).more hb.size)
    have nG0 := Lib.hid (oldG G0.out hb (Nat.le_refl _))
    have nG1 := Lib.hid (oldG G1.out hb (Nat.le_refl _))
    clear hb
    clear HB R0 R1 G0 G1
    have HB := nHB
    have R0 := nR0
    have R1 := nR1
    have G0 := nG0
    have G1 := nG1
    clear nHB nR0 nR1 nG0 nG1
    obtain ⟨g0x, g0y⟩ := cG2 G0.out
    go_wp2_with fail
    clear g0x g0y
    refine (CF.out _ HB.out R0.out).mono ?_
    rintro e w2 ⟨rfl, hb⟩
    have nHB := Lib.hid (belG HB.out hb HB.out.size)
    have nR0 := Lib.hid ((R0.out.below hb (Nat.le_refl _)).more hb.size)
    have nR1 := Lib.hid ((R1.out.below hb (Nat.le_refl _)).more hb.size)
    have nG0 := Lib.hid (oldG G0.out hb (Nat.le_refl _))
    have nG1 := Lib.hid (oldG G1.out hb (Nat.le_refl _))
    clear hb
    clear HB R0 R1 G0 G1
    have HB := nHB
    have R0 := nR0
    have R1 := nR1
    have G0 := nG0
    have G1 := nG1
    clear nHB nR0 nR1 nG0 nG1
    obtain ⟨g1x, g1y⟩ := cG2 G1.out
    go_wp2_with fail
    clear g1x g1y
    refine (CF2.out _ HB.out R1.out).mono ?_
    rintro e w3 ⟨rfl, hb⟩
    have nHB := Lib.hid (belG HB.out hb HB.out.size)
    have nR0 := Lib.hid ((R0.out.below hb (Nat.le_refl _)).more hb.size)
    have nR1 := Lib.hid ((R1.out.below hb (Nat.le_refl _)).more hb.size)
    have nG0 := Lib.hid (oldG G0.out hb (Nat.le_refl _))
    have nG1 := Lib.hid (oldG G1.out hb (Nat.le_refl _))
    clear hb
    clear HB R0 R1 G0 G1
    have HB := nHB
    have R0 := nR0
    have R1 := nR1
    have G0 := nG0
    have G1 := nG1
    clear nHB nR0 nR1 nG0 nG1
    go_wp2_with fail
    go_ret
    exact ⟨rfl, HB.out⟩
  rw [hF2] at CF2
  have hok := few_ok hF hz
  have hok2 := few_ok hF2 hz2
  have CR := Lib.hid (fun w (hB : Below W.heap.size W w) (h : RdF w w.heap.size A l) => refRightM_any t A l c w ht (by have := hok.len; omega) (fun x hx => by have := hok.small x hx; omega) hc hcm h)
  have CR2 := Lib.hid (fun w (hB : Below W.heap.size W w) (h2 : RdF w w.heap.size B k) => refRightM_any u B k d w ht2 (by have := hok2.len; omega) (fun x hx => by have := hok2.small x hx; omega) hc2 hcm2 h2)
  by_cases hR : RightM t l
  case neg =>
    rw [decide_eq_false hR] at CR
    clear hr hr2 hc hc2 hz hz2 hcm hcm2 hF hF2 hok hok2 hR
    obtain ⟨n, hn⟩ : ∃ n, n = l.length := ⟨_, rfl⟩
    obtain ⟨m, hm'⟩ : ∃ n, n = k.length := ⟨_, rfl⟩
    rw [← hn] at CF CR
    rw [← hm'] at CF2 CR2
    rw [← hn, ← hm']
    clear hn hm'
    obtain ⟨V0, hV, hb, hg, hg2⟩ := box2 W #[.int .i64 t, .slice A n c] #[.int .i64 u, .slice B m d] 24 24
    have HB := Lib.hid hb
    have G0 := Lib.hid hg
    have G1 := Lib.hid hg2
    have nR0 := Lib.hid ((R0.out.below hb (Nat.le_refl _)).more hb.size)
    have nR1 := Lib.hid ((R1.out.below hb (Nat.le_refl _)).more hb.size)
    have HV := Lib.hid hV
    clear hb hg hg2 hV
    clear R0 R1
    have R0 := nR0
    have R1 := nR1
    clear nR0 nR1
    go_enter Tryd.func9, Tryd.ntmps9
    go_wp2_with fail
    rw [← HV.out]
    clear HV
    refine (shown7_any _ (HT.out.below HB.out)).mono ?_
    rintro e w1 ⟨rfl, hb⟩
    have nHB := Lib.hid (belG HB.out hb HB.out.size)
    have nR0 := Lib.hid ((R0.out.below hb (Nat.le_refl _)).more hb.size)
    have nR1 := Lib.hid ((R1.out.below hb (Nat.le_refl _)).more hb.size)
    have nG0 := Lib.hid (oldG G0.out hb (Nat.le_refl _))
    have nG1 := Lib.hid (oldG G1.out hb (Nat.le_refl _))
    clear hb
    clear HB R0 R1 G0 G1
    have HB := nHB
    have R0 := nR0
    have R1 := nR1
    have G0 := nG0
    have G1 := nG1
    clear nHB nR0 nR1 nG0 nG1
    obtain ⟨g0x, g0y⟩ := cG2 G0.out
    go_wp2_with fail
    clear g0x g0y
    refine (CF.out _ HB.out R0.out).mono ?_
    rintro e w2 ⟨rfl, hb⟩
    have nHB := Lib.hid (belG HB.out hb HB.out.size)
    have nR0 := Lib.hid ((R0.out.below hb (Nat.le_refl _)).more hb.size)
    have nR1 := Lib.hid ((R1.out.below hb (Nat.le_refl _)).more hb.size)
    have nG0 := Lib.hid (oldG G0.out hb (Nat.le_refl _))
    have nG1 := Lib.hid (oldG G1.out hb (Nat.le_refl _))
    clear hb
    clear HB R0 R1 G0 G1
    have HB := nHB
    have R0 := nR0
    have R1 := nR1
    have G0 := nG0
    have G1 := nG1
    clear nHB nR0 nR1 nG0 nG1
    obtain ⟨g1x, g1y⟩ := cG2 G1.out
    go_wp2_with fail
    clear g1x g1y
    refine (CF2.out _ HB.out R1.out).mono ?_
    rintro e w3 ⟨rfl, hb⟩
    have nHB := Lib.hid (belG HB.out hb HB.out.size)
    have nR0 := Lib.hid ((R0.out.below hb (Nat.le_refl _)).more hb.size)
    have nR1 := Lib.hid ((R1.out.below hb (Nat.le_refl _)).more hb.size)
    have nG0 := Lib.hid (oldG G0.out hb (Nat.le_refl _))
    have nG1 := Lib.hid (oldG G1.out hb (Nat.le_refl _))
    clear hb
    clear HB R0 R1 G0 G1
    have HB := nHB
    have R0 := nR0
    have R1 := nR1
    have G0 := nG0
    have G1 := nG1
    clear nHB nR0 nR1 nG0 nG1
    obtain ⟨g0x, g0y⟩ := cG2 G0.out
    go_wp2_with fail
    clear g0x g0y
    refine (CR.out _ HB.out R0.out).mono ?_
    rintro e w4 ⟨rfl, hb⟩
    have nHB := Lib.hid (belG HB.out hb HB.out.size)
    have nR0 := Lib.hid ((R0.out.below hb (Nat.le_refl _)).more hb.size)
    have nR1 := Lib.hid ((R1.out.below hb (Nat.le_refl _)).more hb.size)
    have nG0 := Lib.hid (oldG G0.out hb (Nat.le_refl _))
    have nG1 := Lib.hid (oldG G1.out hb (Nat.le_refl _))
    clear hb
    clear HB R0 R1 G0 G1
    have HB := nHB
    have R0 := nR0
    have R1 := nR1
    have G0 := nG0
    have G1 := nG1
    clear nHB nR0 nR1 nG0 nG1
    go_wp2_with fail
    go_ret
    exact ⟨rfl, HB.out⟩
  rw [decide_eq_true hR] at CR
  by_cases hR2 : RightM u k
  case neg =>
    rw [decide_eq_false hR2] at CR2
    clear hr hr2 hc hc2 hz hz2 hcm hcm2 hF hF2 hok hok2 hR hR2
    obtain ⟨n, hn⟩ : ∃ n, n = l.length := ⟨_, rfl⟩
    obtain ⟨m, hm'⟩ : ∃ n, n = k.length := ⟨_, rfl⟩
    rw [← hn] at CF CR
    rw [← hm'] at CF2 CR2
    rw [← hn, ← hm']
    clear hn hm'
    obtain ⟨V0, hV, hb, hg, hg2⟩ := box2 W #[.int .i64 t, .slice A n c] #[.int .i64 u, .slice B m d] 24 24
    have HB := Lib.hid hb
    have G0 := Lib.hid hg
    have G1 := Lib.hid hg2
    have nR0 := Lib.hid ((R0.out.below hb (Nat.le_refl _)).more hb.size)
    have nR1 := Lib.hid ((R1.out.below hb (Nat.le_refl _)).more hb.size)
    have HV := Lib.hid hV
    clear hb hg hg2 hV
    clear R0 R1
    have R0 := nR0
    have R1 := nR1
    clear nR0 nR1
    go_enter Tryd.func9, Tryd.ntmps9
    go_wp2_with fail
    rw [← HV.out]
    clear HV
    refine (shown7_any _ (HT.out.below HB.out)).mono ?_
    rintro e w1 ⟨rfl, hb⟩
    have nHB := Lib.hid (belG HB.out hb HB.out.size)
    have nR0 := Lib.hid ((R0.out.below hb (Nat.le_refl _)).more hb.size)
    have nR1 := Lib.hid ((R1.out.below hb (Nat.le_refl _)).more hb.size)
    have nG0 := Lib.hid (oldG G0.out hb (Nat.le_refl _))
    have nG1 := Lib.hid (oldG G1.out hb (Nat.le_refl _))
    clear hb
    clear HB R0 R1 G0 G1
    have HB := nHB
    have R0 := nR0
    have R1 := nR1
    have G0 := nG0
    have G1 := nG1
    clear nHB nR0 nR1 nG0 nG1
    obtain ⟨g0x, g0y⟩ := cG2 G0.out
    go_wp2_with fail
    clear g0x g0y
    refine (CF.out _ HB.out R0.out).mono ?_
    rintro e w2 ⟨rfl, hb⟩
    have nHB := Lib.hid (belG HB.out hb HB.out.size)
    have nR0 := Lib.hid ((R0.out.below hb (Nat.le_refl _)).more hb.size)
    have nR1 := Lib.hid ((R1.out.below hb (Nat.le_refl _)).more hb.size)
    have nG0 := Lib.hid (oldG G0.out hb (Nat.le_refl _))
    have nG1 := Lib.hid (oldG G1.out hb (Nat.le_refl _))
    clear hb
    clear HB R0 R1 G0 G1
    have HB := nHB
    have R0 := nR0
    have R1 := nR1
    have G0 := nG0
    have G1 := nG1
    clear nHB nR0 nR1 nG0 nG1
    obtain ⟨g1x, g1y⟩ := cG2 G1.out
    go_wp2_with fail
    clear g1x g1y
    refine (CF2.out _ HB.out R1.out).mono ?_
    rintro e w3 ⟨rfl, hb⟩
    have nHB := Lib.hid (belG HB.out hb HB.out.size)
    have nR0 := Lib.hid ((R0.out.below hb (Nat.le_refl _)).more hb.size)
    have nR1 := Lib.hid ((R1.out.below hb (Nat.le_refl _)).more hb.size)
    have nG0 := Lib.hid (oldG G0.out hb (Nat.le_refl _))
    have nG1 := Lib.hid (oldG G1.out hb (Nat.le_refl _))
    clear hb
    clear HB R0 R1 G0 G1
    have HB := nHB
    have R0 := nR0
    have R1 := nR1
    have G0 := nG0
    have G1 := nG1
    clear nHB nR0 nR1 nG0 nG1
    obtain ⟨g0x, g0y⟩ := cG2 G0.out
    go_wp2_with fail
    clear g0x g0y
    refine (CR.out _ HB.out R0.out).mono ?_
    rintro e w4 ⟨rfl, hb⟩
    have nHB := Lib.hid (belG HB.out hb HB.out.size)
    have nR0 := Lib.hid ((R0.out.below hb (Nat.le_refl _)).more hb.size)
    have nR1 := Lib.hid ((R1.out.below hb (Nat.le_refl _)).more hb.size)
    have nG0 := Lib.hid (oldG G0.out hb (Nat.le_refl _))
    have nG1 := Lib.hid (oldG G1.out hb (Nat.le_refl _))
    clear hb
    clear HB R0 R1 G0 G1
    have HB := nHB
    have R0 := nR0
    have R1 := nR1
    have G0 := nG0
    have G1 := nG1
    clear nHB nR0 nR1 nG0 nG1
    obtain ⟨g1x, g1y⟩ := cG2 G1.out
    go_wp2_with fail
    clear g1x g1y
    refine (CR2.out _ HB.out R1.out).mono ?_
    rintro e w5 ⟨rfl, hb⟩
    have nHB := Lib.hid (belG HB.out hb HB.out.size)
    have nR0 := Lib.hid ((R0.out.below hb (Nat.le_refl _)).more hb.size)
    have nR1 := Lib.hid ((R1.out.below hb (Nat.le_refl _)).more hb.size)
    have nG0 := Lib.hid (oldG G0.out hb (Nat.le_refl _))
    have nG1 := Lib.hid (oldG G1.out hb (Nat.le_refl _))
    clear hb
    clear HB R0 R1 G0 G1
    have HB := nHB
    have R0 := nR0
    have R1 := nR1
    have G0 := nG0
    have G1 := nG1
    clear nHB nR0 nR1 nG0 nG1
    go_wp2_with fail
    go_ret
    exact ⟨rfl, HB.out⟩
  rw [decide_eq_true hR2] at CR2
  have C1 := Lib.hid (fun w (hB : Below W.heap.size W w) (h : RdF w w.heap.size A l) => iWrite_any t A l c w ht hok hc hcm h (hT.below hB))
  have C2 := Lib.hid (fun w (hB : Below W.heap.size W w) (h2 : RdF w w.heap.size B k) => iWrite_any u B k d w ht2 hok2 hc2 hcm2 h2 (hT.below hB))
  have CS := Lib.hid (fun w (hB : Below W.heap.size W w) (h : RdF w w.heap.size A l) (h2 : RdF w w.heap.size B k) => refSameM_any t u A B l k c d w hc hcm h h2)
  rw [(isoW_right hR).1, (isoW_right hR).2] at C1
  rw [(isoW_right hR2).1, (isoW_right hR2).2] at C2
  obtain ⟨q, hq⟩ : ∃ q, q = min (isoM t l).length (isoM u k).length := ⟨_, rfl⟩
  have hap := iso_apart hR hR2 q hq
  rw [decide_eq_decide.2 hap.symm] at CS
  have SB := Lib.hid (fun (A1 A2 : Option Addr) (c1 c2 : Nat) w (hB : Below W.heap.size W w) (h1 : Rd w w.heap.size A1 (isoM t l)) (h2 : Rd w w.heap.size A2 (isoM u k)) => (show Calls Tryd.prog 17 #[.slice A1 q c1, .slice A2 q c2] w fun e W' => e = .returned (.bool (decide ((isoM t l).take q = (isoM u k).take q))) ∧ w = W' from by
    have h9 := same_any A1 A2 ((isoM t l).take q) ((isoM u k).take q) c1 c2 _ _ w (rd_takeG h1 q) (rd_takeG h2 q)
    rw [show ((isoM t l).take q).length = q by rw [List.length_take]; omega, show ((isoM u k).take q).length = q by rw [List.length_take]; omega] at h9
    exact h9))
  generalize decide ((isoM t l).take q = (isoM u k).take q) = FS at *
  generalize isoM t l = X at *
  generalize isoM u k = Y at *
  clear hap hF hF2 hok hok2 hR hR2 hr hr2 hc hc2 hz hz2 hcm hcm2
  generalize X.length = nx at *
  generalize Y.length = ny at *
  obtain ⟨n, hn⟩ : ∃ n, n = l.length := ⟨_, rfl⟩
  obtain ⟨m, hm'⟩ : ∃ n, n = k.length := ⟨_, rfl⟩
  rw [← hn] at CF CR C1 CS
  rw [← hm'] at CF2 CR2 C2 CS
  rw [← hn, ← hm']
  clear hn hm'
  have eS : (FS == FS) = true := by simp
  have hqx : q ≤ nx := by omega
  have hqy : q ≤ ny := by omega
  have q0 : (0 : Int) ≤ (q : Int) := by omega
  by_cases hlt : ny < nx
  case pos =>
    obtain rfl : q = ny := by omega
    have hli : (q : Int) < (nx : Int) := by omega
    clear hq
    obtain ⟨V0, hV, hb, hg, hg2⟩ := box2 W #[.int .i64 t, .slice A n c] #[.int .i64 u, .slice B m d] 24 24
    have HB := Lib.hid hb
    have G0 := Lib.hid hg
    have G1 := Lib.hid hg2
    have nR0 := Lib.hid ((R0.out.below hb (Nat.le_refl _)).more hb.size)
    have nR1 := Lib.hid ((R1.out.below hb (Nat.le_refl _)).more hb.size)
    have HV := Lib.hid hV
    clear hb hg hg2 hV
    clear R0 R1
    have R0 := nR0
    have R1 := nR1
    clear nR0 nR1
    go_enter Tryd.func9, Tryd.ntmps9
    go_wp2_with fail
    rw [← HV.out]
    clear HV
    refine (shown7_any _ (HT.out.below HB.out)).mono ?_
    rintro e w1 ⟨rfl, hb⟩
    have nHB := Lib.hid (belG HB.out hb HB.out.size)
    have nR0 := Lib.hid ((R0.out.below hb (Nat.le_refl _)).more hb.size)
    have nR1 := Lib.hid ((R1.out.below hb (Nat.le_refl _)).more hb.size)
    have nG0 := Lib.hid (oldG G0.out hb (Nat.le_refl _))
    have nG1 := Lib.hid (oldG G1.out hb (Nat.le_refl _))
    clear hb
    clear HB R0 R1 G0 G1
    have HB := nHB
    have R0 := nR0
    have R1 := nR1
    have G0 := nG0
    have G1 := nG1
    clear nHB nR0 nR1 nG0 nG1
    obtain ⟨g0x, g0y⟩ := cG2 G0.out
    go_wp2_with fail
    clear g0x g0y
    refine (CF.out _ HB.out R0.out).mono ?_
    rintro e w2 ⟨rfl, hb⟩
    have nHB := Lib.hid (belG HB.out hb HB.out.size)
    have nR0 := Lib.hid ((R0.out.below hb (Nat.le_refl _)).more hb.size)
    have nR1 := Lib.hid ((R1.out.below hb (Nat.le_refl _)).more hb.size)
    have nG0 := Lib.hid (oldG G0.out hb (Nat.le_refl _))
    have nG1 := Lib.hid (oldG G1.out hb (Nat.le_refl _))
    clear hb
    clear HB R0 R1 G0 G1
    have HB := nHB
    have R0 := nR0
    have R1 := nR1
    have G0 := nG0
    have G1 := nG1
    clear nHB nR0 nR1 nG0 nG1
    obtain ⟨g1x, g1y⟩ := cG2 G1.out
    go_wp2_with fail
    clear g1x g1y
    refine (CF2.out _ HB.out R1.out).mono ?_
    rintro e w3 ⟨rfl, hb⟩
    have nHB := Lib.hid (belG HB.out hb HB.out.size)
    have nR0 := Lib.hid ((R0.out.below hb (Nat.le_refl _)).more hb.size)
    have nR1 := Lib.hid ((R1.out.below hb (Nat.le_refl _)).more hb.size)
    have nG0 := Lib.hid (oldG G0.out hb (Nat.le_refl _))
    have nG1 := Lib.hid (oldG G1.out hb (Nat.le_refl _))
    clear hb
    clear HB R0 R1 G0 G1
    have HB := nHB
    have R0 := nR0
    have R1 := nR1
    have G0 := nG0
    have G1 := nG1
    clear nHB nR0 nR1 nG0 nG1
    obtain ⟨g0x, g0y⟩ := cG2 G0.out
    go_wp2_with fail
    clear g0x g0y
    refine (CR.out _ HB.out R0.out).mono ?_
    rintro e w4 ⟨rfl, hb⟩
    have nHB := Lib.hid (belG HB.out hb HB.out.size)
    have nR0 := Lib.hid ((R0.out.below hb (Nat.le_refl _)).more hb.size)
    have nR1 := Lib.hid ((R1.out.below hb (Nat.le_refl _)).more hb.size)
    have nG0 := Lib.hid (oldG G0.out hb (Nat.le_refl _))
    have nG1 := Lib.hid (oldG G1.out hb (Nat.le_refl _))
    clear hb
    clear HB R0 R1 G0 G1
    have HB := nHB
    have R0 := nR0
    have R1 := nR1
    have G0 := nG0
    have G1 := nG1
    clear nHB nR0 nR1 nG0 nG1
    obtain ⟨g1x, g1y⟩ := cG2 G1.out
    go_wp2_with fail
    clear g1x g1y
    refine (CR2.out _ HB.out R1.out).mono ?_
    rintro e w5 ⟨rfl, hb⟩
    have nHB := Lib.hid (belG HB.out hb HB.out.size)
    have nR0 := Lib.hid ((R0.out.below hb (Nat.le_refl _)).more hb.size)
    have nR1 := Lib.hid ((R1.out.below hb (Nat.le_refl _)).more hb.size)
    have nG0 := Lib.hid (oldG G0.out hb (Nat.le_refl _))
    have nG1 := Lib.hid (oldG G1.out hb (Nat.le_refl _))
    clear hb
    clear HB R0 R1 G0 G1
    have HB := nHB
    have R0 := nR0
    have R1 := nR1
    have G0 := nG0
    have G1 := nG1
    clear nHB nR0 nR1 nG0 nG1
    obtain ⟨g0x, g0y⟩ := cG2 G0.out
    go_wp2_with fail
    clear g0x g0y
    refine (C1.out _ HB.out R0.out).mono ?_
    rintro e w6 ⟨⟨A1, c1, rfl, p1, -, h1⟩, hb⟩
    have nHB := Lib.hid (belG HB.out hb HB.out.size)
    have nR0 := Lib.hid ((R0.out.below hb (Nat.le_refl _)).more hb.size)
    have nR1 := Lib.hid ((R1.out.below hb (Nat.le_refl _)).more hb.size)
    have nG0 := Lib.hid (oldG G0.out hb (Nat.le_refl _))
    have nG1 := Lib.hid (oldG G1.out hb (Nat.le_refl _))
    clear hb
    clear HB R0 R1 G0 G1
    have HB := nHB
    have R0 := nR0
    have R1 := nR1
    have G0 := nG0
    have G1 := nG1
    clear nHB nR0 nR1 nG0 nG1
    have R3 := Lib.hid h1
    have r1 : (q : Int) ≤ (c1 : Int) := by omega
    clear h1
    obtain ⟨g1x, g1y⟩ := cG2 G1.out
    go_wp2_with fail
    clear g1x g1y
    refine (C2.out _ HB.out R1.out).mono ?_
    rintro e w7 ⟨⟨A2, c2, rfl, p2, -, h2⟩, hb⟩
    have nHB := Lib.hid (belG HB.out hb HB.out.size)
    have nR0 := Lib.hid ((R0.out.below hb (Nat.le_refl _)).more hb.size)
    have nR1 := Lib.hid ((R1.out.below hb (Nat.le_refl _)).more hb.size)
    have nR3 := Lib.hid ((R3.out.below hb (Nat.le_refl _)).more hb.size)
    have nG0 := Lib.hid (oldG G0.out hb (Nat.le_refl _))
    have nG1 := Lib.hid (oldG G1.out hb (Nat.le_refl _))
    clear hb
    clear HB R0 R1 R3 G0 G1
    have HB := nHB
    have R0 := nR0
    have R1 := nR1
    have R3 := nR3
    have G0 := nG0
    have G1 := nG1
    clear nHB nR0 nR1 nR3 nG0 nG1
    have R4 := Lib.hid h2
    have r2 : (q : Int) ≤ (c2 : Int) := by omega
    clear h2
    have BB0 := Lib.hid ((Below.refl w7.heap.size w7).drew)
    have F0 := Lib.hid (fun w (h : Below w7.heap.size w7 w) => belG HB.out h HB.out.size)
    have FR0 := Lib.hid (fun w (h : Below w7.heap.size w7 w) => (R0.out.below h (Nat.le_refl _)).more h.size)
    have FR1 := Lib.hid (fun w (h : Below w7.heap.size w7 w) => (R1.out.below h (Nat.le_refl _)).more h.size)
    have FR3 := Lib.hid (fun w (h : Below w7.heap.size w7 w) => (R3.out.below h (Nat.le_refl _)).more h.size)
    have FR4 := Lib.hid (fun w (h : Below w7.heap.size w7 w) => (R4.out.below h (Nat.le_refl _)).more h.size)
    have KEEP := Lib.hid (fun w' (h : Below w7.heap.size w7 w') => (show Below w7.heap.size w7 w' ∧ w'.cell? ⟨W.heap.size, 0, none⟩ = some (.int .i64 t) ∧ w'.cell? ⟨W.heap.size, 1, none⟩ = some (.slice A n c) ∧ w'.cell? ⟨W.heap.size + 1, 0, none⟩ = some (.int .i64 u) ∧ w'.cell? ⟨W.heap.size + 1, 1, none⟩ = some (.slice B m d) from by
      obtain ⟨z0, u0⟩ := cG2 (oldG G0.out h (Nat.le_refl _))
      obtain ⟨z1, u1⟩ := cG2 (oldG G1.out h (Nat.le_refl _))
      exact ⟨h, z0, u0, z1, u1⟩))
    go_wp2_with fail
    go_region_held3 (fun w' => Below w7.heap.size w7 w' ∧ w'.cell? ⟨W.heap.size, 0, none⟩ = some (.int .i64 t) ∧ w'.cell? ⟨W.heap.size, 1, none⟩ = some (.slice A n c) ∧ w'.cell? ⟨W.heap.size + 1, 0, none⟩ = some (.int .i64 u) ∧ w'.cell? ⟨W.heap.size + 1, 1, none⟩ = some (.slice B m d))
      (first | with_reducible exact KEEP.out _ BB0.out | with_reducible exact KEEP.out _ BB2.out)
      (first
      | (go_at_call 17; (with_reducible refine (SB.out A1 A2 c1 c2 _ (F0.out _ BB0.out) (FR3.out _ BB0.out) (FR4.out _ BB0.out)).mono ?_); rintro e wz0 ⟨rfl, rfl⟩)
      | (go_at_call 21; (with_reducible refine (CS.out _ (F0.out _ BB0.out) (FR0.out _ BB0.out) (FR1.out _ BB0.out)).mono ?_); rintro e wz1 ⟨rfl, hb⟩; have BB2 := Lib.hid (belG BB0.out hb BB0.out.size); clear hb))
    all_goals
      go_wp2_with fail
      go_ret
      exact ⟨by first | rfl | simp, F0.out _ BB2.out⟩
  case neg =>
    obtain rfl : q = nx := by omega
    have hli : ¬ (ny : Int) < (q : Int) := by omega
    clear hq
    obtain ⟨V0, hV, hb, hg, hg2⟩ := box2 W #[.int .i64 t, .slice A n c] #[.int .i64 u, .slice B m d] 24 24
    have HB := Lib.hid hb
    have G0 := Lib.hid hg
    have G1 := Lib.hid hg2
    have nR0 := Lib.hid ((R0.out.below hb (Nat.le_refl _)).more hb.size)
    have nR1 := Lib.hid ((R1.out.below hb (Nat.le_refl _)).more hb.size)
    have HV := Lib.hid hV
    clear hb hg hg2 hV
    clear R0 R1
    have R0 := nR0
    have R1 := nR1
    clear nR0 nR1
    go_enter Tryd.func9, Tryd.ntmps9
    go_wp2_with fail
    rw [← HV.out]
    clear HV
    refine (shown7_any _ (HT.out.below HB.out)).mono ?_
    rintro e w1 ⟨rfl, hb⟩
    have nHB := Lib.hid (belG HB.out hb HB.out.size)
    have nR0 := Lib.hid ((R0.out.below hb (Nat.le_refl _)).more hb.size)
    have nR1 := Lib.hid ((R1.out.below hb (Nat.le_refl _)).more hb.size)
    have nG0 := Lib.hid (oldG G0.out hb (Nat.le_refl _))
    have nG1 := Lib.hid (oldG G1.out hb (Nat.le_refl _))
    clear hb
    clear HB R0 R1 G0 G1
    have HB := nHB
    have R0 := nR0
    have R1 := nR1
    have G0 := nG0
    have G1 := nG1
    clear nHB nR0 nR1 nG0 nG1
    obtain ⟨g0x, g0y⟩ := cG2 G0.out
    go_wp2_with fail
    clear g0x g0y
    refine (CF.out _ HB.out R0.out).mono ?_
    rintro e w2 ⟨rfl, hb⟩
    have nHB := Lib.hid (belG HB.out hb HB.out.size)
    have nR0 := Lib.hid ((R0.out.below hb (Nat.le_refl _)).more hb.size)
    have nR1 := Lib.hid ((R1.out.below hb (Nat.le_refl _)).more hb.size)
    have nG0 := Lib.hid (oldG G0.out hb (Nat.le_refl _))
    have nG1 := Lib.hid (oldG G1.out hb (Nat.le_refl _))
    clear hb
    clear HB R0 R1 G0 G1
    have HB := nHB
    have R0 := nR0
    have R1 := nR1
    have G0 := nG0
    have G1 := nG1
    clear nHB nR0 nR1 nG0 nG1
    obtain ⟨g1x, g1y⟩ := cG2 G1.out
    go_wp2_with fail
    clear g1x g1y
    refine (CF2.out _ HB.out R1.out).mono ?_
    rintro e w3 ⟨rfl, hb⟩
    have nHB := Lib.hid (belG HB.out hb HB.out.size)
    have nR0 := Lib.hid ((R0.out.below hb (Nat.le_refl _)).more hb.size)
    have nR1 := Lib.hid ((R1.out.below hb (Nat.le_refl _)).more hb.size)
    have nG0 := Lib.hid (oldG G0.out hb (Nat.le_refl _))
    have nG1 := Lib.hid (oldG G1.out hb (Nat.le_refl _))
    clear hb
    clear HB R0 R1 G0 G1
    have HB := nHB
    have R0 := nR0
    have R1 := nR1
    have G0 := nG0
    have G1 := nG1
    clear nHB nR0 nR1 nG0 nG1
    obtain ⟨g0x, g0y⟩ := cG2 G0.out
    go_wp2_with fail
    clear g0x g0y
    refine (CR.out _ HB.out R0.out).mono ?_
    rintro e w4 ⟨rfl, hb⟩
    have nHB := Lib.hid (belG HB.out hb HB.out.size)
    have nR0 := Lib.hid ((R0.out.below hb (Nat.le_refl _)).more hb.size)
    have nR1 := Lib.hid ((R1.out.below hb (Nat.le_refl _)).more hb.size)
    have nG0 := Lib.hid (oldG G0.out hb (Nat.le_refl _))
    have nG1 := Lib.hid (oldG G1.out hb (Nat.le_refl _))
    clear hb
    clear HB R0 R1 G0 G1
    have HB := nHB
    have R0 := nR0
    have R1 := nR1
    have G0 := nG0
    have G1 := nG1
    clear nHB nR0 nR1 nG0 nG1
    obtain ⟨g1x, g1y⟩ := cG2 G1.out
    go_wp2_with fail
    clear g1x g1y
    refine (CR2.out _ HB.out R1.out).mono ?_
    rintro e w5 ⟨rfl, hb⟩
    have nHB := Lib.hid (belG HB.out hb HB.out.size)
    have nR0 := Lib.hid ((R0.out.below hb (Nat.le_refl _)).more hb.size)
    have nR1 := Lib.hid ((R1.out.below hb (Nat.le_refl _)).more hb.size)
    have nG0 := Lib.hid (oldG G0.out hb (Nat.le_refl _))
    have nG1 := Lib.hid (oldG G1.out hb (Nat.le_refl _))
    clear hb
    clear HB R0 R1 G0 G1
    have HB := nHB
    have R0 := nR0
    have R1 := nR1
    have G0 := nG0
    have G1 := nG1
    clear nHB nR0 nR1 nG0 nG1
    obtain ⟨g0x, g0y⟩ := cG2 G0.out
    go_wp2_with fail
    clear g0x g0y
    refine (C1.out _ HB.out R0.out).mono ?_
    rintro e w6 ⟨⟨A1, c1, rfl, p1, -, h1⟩, hb⟩
    have nHB := Lib.hid (belG HB.out hb HB.out.size)
    have nR0 := Lib.hid ((R0.out.below hb (Nat.le_refl _)).more hb.size)
    have nR1 := Lib.hid ((R1.out.below hb (Nat.le_refl _)).more hb.size)
    have nG0 := Lib.hid (oldG G0.out hb (Nat.le_refl _))
    have nG1 := Lib.hid (oldG G1.out hb (Nat.le_refl _))
    clear hb
    clear HB R0 R1 G0 G1
    have HB := nHB
    have R0 := nR0
    have R1 := nR1
    have G0 := nG0
    have G1 := nG1
    clear nHB nR0 nR1 nG0 nG1
    have R3 := Lib.hid h1
    have r1 : (q : Int) ≤ (c1 : Int) := by omega
    clear h1
    obtain ⟨g1x, g1y⟩ := cG2 G1.out
    go_wp2_with fail
    clear g1x g1y
    refine (C2.out _ HB.out R1.out).mono ?_
    rintro e w7 ⟨⟨A2, c2, rfl, p2, -, h2⟩, hb⟩
    have nHB := Lib.hid (belG HB.out hb HB.out.size)
    have nR0 := Lib.hid ((R0.out.below hb (Nat.le_refl _)).more hb.size)
    have nR1 := Lib.hid ((R1.out.below hb (Nat.le_refl _)).more hb.size)
    have nR3 := Lib.hid ((R3.out.below hb (Nat.le_refl _)).more hb.size)
    have nG0 := Lib.hid (oldG G0.out hb (Nat.le_refl _))
    have nG1 := Lib.hid (oldG G1.out hb (Nat.le_refl _))
    clear hb
    clear HB R0 R1 R3 G0 G1
    have HB := nHB
    have R0 := nR0
    have R1 := nR1
    have R3 := nR3
    have G0 := nG0
    have G1 := nG1
    clear nHB nR0 nR1 nR3 nG0 nG1
    have R4 := Lib.hid h2
    have r2 : (q : Int) ≤ (c2 : Int) := by omega
    clear h2
    have BB0 := Lib.hid ((Below.refl w7.heap.size w7).drew)
    have F0 := Lib.hid (fun w (h : Below w7.heap.size w7 w) => belG HB.out h HB.out.size)
    have FR0 := Lib.hid (fun w (h : Below w7.heap.size w7 w) => (R0.out.below h (Nat.le_refl _)).more h.size)
    have FR1 := Lib.hid (fun w (h : Below w7.heap.size w7 w) => (R1.out.below h (Nat.le_refl _)).more h.size)
    have FR3 := Lib.hid (fun w (h : Below w7.heap.size w7 w) => (R3.out.below h (Nat.le_refl _)).more h.size)
    have FR4 := Lib.hid (fun w (h : Below w7.heap.size w7 w) => (R4.out.below h (Nat.le_refl _)).more h.size)
    have KEEP := Lib.hid (fun w' (h : Below w7.heap.size w7 w') => (show Below w7.heap.size w7 w' ∧ w'.cell? ⟨W.heap.size, 0, none⟩ = some (.int .i64 t) ∧ w'.cell? ⟨W.heap.size, 1, none⟩ = some (.slice A n c) ∧ w'.cell? ⟨W.heap.size + 1, 0, none⟩ = some (.int .i64 u) ∧ w'.cell? ⟨W.heap.size + 1, 1, none⟩ = some (.slice B m d) from by
      obtain ⟨z0, u0⟩ := cG2 (oldG G0.out h (Nat.le_refl _))
      obtain ⟨z1, u1⟩ := cG2 (oldG G1.out h (Nat.le_refl _))
      exact ⟨h, z0, u0, z1, u1⟩))
    go_wp2_with fail
    go_region_held3 (fun w' => Below w7.heap.size w7 w' ∧ w'.cell? ⟨W.heap.size, 0, none⟩ = some (.int .i64 t) ∧ w'.cell? ⟨W.heap.size, 1, none⟩ = some (.slice A n c) ∧ w'.cell? ⟨W.heap.size + 1, 0, none⟩ = some (.int .i64 u) ∧ w'.cell? ⟨W.heap.size + 1, 1, none⟩ = some (.slice B m d))
      (first | with_reducible exact KEEP.out _ BB0.out | with_reducible exact KEEP.out _ BB2.out)
      (first
      | (go_at_call 17; (with_reducible refine (SB.out A1 A2 c1 c2 _ (F0.out _ BB0.out) (FR3.out _ BB0.out) (FR4.out _ BB0.out)).mono ?_); rintro e wz0 ⟨rfl, rfl⟩)
      | (go_at_call 21; (with_reducible refine (CS.out _ (F0.out _ BB0.out) (FR0.out _ BB0.out) (FR1.out _ BB0.out)).mono ?_); rintro e wz1 ⟨rfl, hb⟩; have BB2 := Lib.hid (belG BB0.out hb BB0.out.size); clear hb))
    all_goals
      go_wp2_with fail
      go_ret
      exact ⟨by first | rfl | simp, F0.out _ BB2.out⟩
end Go.Proofs.YtpfjecjfooefoaaDoor
