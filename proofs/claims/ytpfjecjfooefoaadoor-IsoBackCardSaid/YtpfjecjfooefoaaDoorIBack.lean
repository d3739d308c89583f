
/- IsoBack's walk. -/
import Derived.Test.YtpfjecjfooefoaaDoorJ40
namespace Go.Proofs.YtpfjecjfooefoaaDoor
open Go.RowKit

set_option maxRecDepth 100000 in
set_option maxHeartbeats 4000000 in
theorem isoBack_walk (t : Int) (A : Option Addr) (l : List Fl) (c : Nat) (B : Option Addr) (u : List UInt8) (d : Nat) (W : World) (ht : -9223372036854775808 ≤ t ∧ t ≤ 9223372036854775807) (hc : l.length ≤ c) (hcm : c ≤ 9223372036854775807) (hz : I64f l) (hr : RdF W W.heap.size A l) (hd : u.length ≤ d) (hdm : d ≤ 9223372036854775807) (hs : Rd W W.heap.size B u) (hT : Tb W) :
    Calls Tryd.prog 6 #[.agg #[.int .i64 t, .slice A l.length c], .slice B u.length d] W fun e W' => e = .returned (.bool true) ∧ Below W.heap.size W W' := by
  have HT := Lib.hid hT
  have R0 := Lib.hid hr
  have S0 := Lib.hid hs
  have CF := Lib.hid (fun w (hB : Below W.heap.size W w) (h : RdF w w.heap.size A l) => refFew_any t A l c w hc hcm h)
  by_cases hF : fewF l = true
  case neg =>
    rw [Bool.not_eq_true] at hF
    rw [hF] at CF
    clear hr hs hc hz hd hcm hdm
    obtain ⟨n, hn⟩ : ∃ n, n = l.length := ⟨_, rfl⟩
    rw [← hn] at CF
    rw [← hn]
    clear hn
    generalize u.length = m at *
    have hb := (Below.refl W.heap.size W).alloc (Nat.le_refl _) (.cells #[.int .i64 t, .slice A n c] 24)
    have hg := heap_alloc_new W (.cells #[.int .i64 t, .slice A n c] 24)
    obtain ⟨V0, hV⟩ : ∃ V, V = W.alloc (.cells #[.int .i64 t, .slice A n c] 24) := ⟨_, rfl⟩
    rw [← hV] at hb hg
    have HB := Lib.hid hb
    have G0 := Lib.hid hg
    have nR0 := Lib.hid ((R0.out.below hb (Nat.le_refl _)).more hb.size)
    have nS0 := Lib.hid ((S0.out.below hb (Nat.le_refl _)).more hb.size)
    have HV := Lib.hid hV
    clear hb hg hV
    clear R0 S0
    have R0 := nR0
    have S0 := nS0
    clear nR0 nS0
    go_enter Tryd.func6, Tryd.ntmps6
    go_wp2_with fail
    rw [← HV.out]
    clear HV
    refine (shown7_any _ (HT.out.below HB.out)).mono ?_
    rintro e w1 ⟨rfl, hb⟩
    have nHB := Lib.hid (belG HB.out hb HB.out.size)
    have nR0 := Lib.hid ((R0.out.below hb (Nat.le_refl _)).more hb.size)
    have nS0 := Lib.hid ((S0.out.below hb (Nat.le_refl _)).more hb.size)
    have nG0 := Lib.hid (oldG G0.out hb (Nat.le_refl _))
    clear hb
    clear HB R0 S0 G0
    have HB := nHB
    have R0 := nR0
    have S0 := nS0
    have G0 := nG0
    clear nHB nR0 nS0 nG0
    obtain ⟨g0x, g0y⟩ := cG2 G0.out
    go_wp2_with fail
    clear g0x g0y
    refine (CF.out _ HB.out R0.out).mono ?_
    rintro e w2 ⟨rfl, hb⟩
    have nHB := Lib.hid (belG HB.out hb HB.out.size)
    have nR0 := Lib.hid ((R0.out.below hb (Nat.le_refl _)).more hb.size)
    have nS0 := Lib.hid ((S0.out.below hb (Nat.le_refl _)).more hb.size)
    have nG0 := Lib.hid (oldG G0.out hb (Nat.le_refl _))
    clear hb
    clear HB R0 S0 G0
    have HB := nHB
    have R0 := nR0
    have S0 := nS0
    have G0 := nG0
    clear nHB nR0 nS0 nG0
    go_wp2_with fail
    go_ret
    exact ⟨rfl, HB.out⟩
  have hok := few_ok hF hz
  obtain ⟨hl40, hl450⟩ := few_parts hF
  rw [hF] at CF
  by_cases h25 : 2500 < u.length
  case pos =>
    have i0 : (2500 : Int) < (u.length : Int) := by omega
    clear hr hs hc hz hd hcm hdm hF hok hl40 hl450
    obtain ⟨n, hn⟩ : ∃ n, n = l.length := ⟨_, rfl⟩
    rw [← hn] at CF
    rw [← hn]
    clear hn
    generalize u.length = m at *
    have hb := (Below.refl W.heap.size W).alloc (Nat.le_refl _) (.cells #[.int .i64 t, .slice A n c] 24)
    have hg := heap_alloc_new W (.cells #[.int .i64 t, .slice A n c] 24)
    obtain ⟨V0, hV⟩ : ∃ V, V = W.alloc (.cells #[.int .i64 t, .slice A n c] 24) := ⟨_, rfl⟩
    rw [← hV] at hb hg
    have HB := Lib.hid hb
    have G0 := Lib.hid hg
    have nR0 := Lib.hid ((R0.out.below hb (Nat.le_refl _)).more hb.size)
    have nS0 := Lib.hid ((S0.out.below hb (Nat.le_refl _)).more hb.size)
    have HV := Lib.hid hV
    clear hb hg hV
    clear R0 S0
    have R0 := nR0
    have S0 := nS0
    clear nR0 nS0
    go_enter Tryd.func6, Tryd.ntmps6
    go_wp2_with fail
    rw [← HV.out]
    clear HV
    refine (shown7_any _ (HT.out.below HB.out)).mono ?_
    rintro e w1 ⟨rfl, hb⟩
    have nHB := Lib.hid (belG HB.out hb HB.out.size)
    have nR0 := Lib.hid ((R0.out.below hb (Nat.le_refl _)).more hb.size)
    have nS0 := Lib.hid ((S0.out.below hb (Nat.le_refl _)).more hb.size)
    have nG0 := Lib.hid (oldG G0.out hb (Nat.le_refl _))
    clear hb
    clear HB R0 S0 G0
    have HB := nHB
    have R0 := nR0
    have S0 := nS0
    have G0 := nG0
    clear nHB nR0 nS0 nG0
    obtain ⟨g0x, g0y⟩ := cG2 G0.out
    go_wp2_with fail
    clear g0x g0y
    refine (CF.out _ HB.out R0.out).mono ?_
    rintro e w2 ⟨rfl, hb⟩
    have nHB := Lib.hid (belG HB.out hb HB.out.size)
    have nR0 := Lib.hid ((R0.out.below hb (Nat.le_refl _)).more hb.size)
    have nS0 := Lib.hid ((S0.out.below hb (Nat.le_refl _)).more hb.size)
    have nG0 := Lib.hid (oldG G0.out hb (Nat.le_refl _))
    clear hb
    clear HB R0 S0 G0
    have HB := nHB
    have R0 := nR0
    have S0 := nS0
    have G0 := nG0
    clear nHB nR0 nS0 nG0
    go_wp2_with fail
    go_ret
    exact ⟨rfl, HB.out⟩
  have i0 : ¬ (2500 : Int) < (u.length : Int) := by omega
  have C1 := Lib.hid (fun w (hB : Below W.heap.size W w) (h : RdF w w.heap.size A l) => iWrite_any t A l c w ht hok hc hcm h (hT.below hB))
  have CR := Lib.hid (fun w (hB : Below W.heap.size W w) (h : RdF w w.heap.size A l) => refRightM_any t A l c w ht (by omega) (fun x hx => by have := hl450 x hx; omega) hc hcm h)
  have CD2 := Lib.hid (fun w (hB : Below W.heap.size W w) (hs : Rd w w.heap.size B u) => iRead_any B u d w (by omega) hd hdm hs (hT.below hB))
  have hbad := iso_bad u
  have hgood := iso_ok u
  obtain ⟨X, hX⟩ : ∃ X, X = readMg u := ⟨_, rfl⟩
  rw [← hX] at CD2 hbad hgood
  obtain ⟨x1, x2, x3⟩ := X
  simp only [] at CD2 hbad hgood
  unfold AnsMx at CD2
  clear hX
  by_cases hR : RightM t l
  case pos =>
    rw [(isoW_right hR).1, (isoW_right hR).2] at C1
    rw [decide_eq_true hR] at CR
    have hwl := isoM_len hR
    have hback := iso_back hR
    obtain ⟨L1, hL1⟩ : ∃ L, L = isoM t l := ⟨_, rfl⟩
    rw [← hL1] at C1 hwl hback
    have CD1 := Lib.hid (fun (A6 : Option Addr) (c6 : Nat) w (hB : Below W.heap.size W w) (h1 : L1.length ≤ c6) (h2 : c6 ≤ 9223372036854775807) (h : Rd w w.heap.size A6 L1) => iRead_any A6 L1 c6 w (by omega) h1 h2 h (hT.below hB))
    rw [hback] at CD1
    unfold AnsMx at CD1
    have SM := Lib.hid (fun (A1 A2 : Option Addr) (c1 c2 : Nat) w (hB : Below W.heap.size W w) (p1 : l.length ≤ c1) (p2 : c1 ≤ 9223372036854775807) (h1 : RdF w w.heap.size A1 l) (h2 : RdF w w.heap.size A2 l) => refSameM_any t t A1 A2 l l c1 c2 w p1 p2 h1 h2)
    simp only [and_self, decide_true] at SM
    have HC1 := Lib.hid hc
    have HC2 := Lib.hid hcm
    clear hL1 hwl hback
    by_cases hx : x3 = 0
    · obtain ⟨f1, f2, f3⟩ := hgood hx
      subst hx
      have CW3 := Lib.hid (fun (A3 : Option Addr) (c3 : Nat) w (hB : Below W.heap.size W w) (p1 : x2.length ≤ c3) (p2 : c3 ≤ 9223372036854775807) (h : RdF w w.heap.size A3 x2) => iWrite_any x1 A3 x2 c3 w f1.tb f1.ok p1 p2 h (hT.below hB))
      have CR3 := Lib.hid (fun (A3 : Option Addr) (c3 : Nat) w (hB : Below W.heap.size W w) (p1 : x2.length ≤ c3) (p2 : c3 ≤ 9223372036854775807) (h : RdF w w.heap.size A3 x2) => refRightM_any x1 A3 x2 c3 w f1.tb (by have := f1.ok.len; omega) (fun x hx => by have := f1.ok.small x hx; omega) p1 p2 h)
      have SB := Lib.hid (fun (A1 A2 : Option Addr) (c1 c2 : Nat) w (hB : Below W.heap.size W w) (h1 : Rd w w.heap.size A1 u) (h2 : Rd w w.heap.size A2 u) => same_any A1 A2 u u c1 c2 _ _ w h1 h2)
      rw [(isoW_right f1).1, (isoW_right f1).2, f2] at CW3
      rw [decide_eq_true f1] at CR3
      simp only [decide_true] at SB
      clear hbad hgood f1 f2 f3
      generalize x2.length = nx at *
      clear hr hs hc hz hd hcm hdm hF hok hl40 hl450 h25 hR
      obtain ⟨n, hn⟩ : ∃ n, n = l.length := ⟨_, rfl⟩
      rw [← hn] at CF C1 CR CD1 SM HC1
      rw [← hn]
      clear hn
      generalize L1.length = N1 at *
      generalize u.length = m at *
      have hb := (Below.refl W.heap.size W).alloc (Nat.le_refl _) (.cells #[.int .i64 t, .slice A n c] 24)
      have hg := heap_alloc_new W (.cells #[.int .i64 t, .slice A n c] 24)
      obtain ⟨V0, hV⟩ : ∃ V, V = W.alloc (.cells #[.int .i64 t, .slice A n c] 24) := ⟨_, rfl⟩
      rw [← hV] at hb hg
      have HB := Lib.hid hb
      have G0 := Lib.hid hg
      have nR0 := Lib.hid ((R0.out.below hb (Nat.le_refl _)).more hb.size)
      have nS0 := Lib.hid ((S0.out.below hb (Nat.le_refl _)).more hb.size)
      have HV := Lib.hid hV
      clear hb hg hV
      clear R0 S0
      have R0 := nR0
      have S0 := nS0
      clear nR0 nS0
      go_enter Tryd.func6, Tryd.ntmps6
      go_wp2_with fail
      rw [← HV.out]
      clear HV
      refine (shown7_any _ (HT.out.below HB.out)).mono ?_
      rintro e w1 ⟨rfl, hb⟩
      have nHB := Lib.hid (belG HB.out hb HB.out.size)
      have nR0 := Lib.hid ((R0.out.below hb (Nat.le_refl _)).more hb.size)
      have nS0 := Lib.hid ((S0.out.below hb (Nat.le_refl _)).more hb.size)
      have nG0 := Lib.hid (oldG G0.out hb (Nat.le_refl _))
      clear hb
      clear HB R0 S0 G0
      have HB := nHB
      have R0 := nR0
      have S0 := nS0
      have G0 := nG0
      clear nHB nR0 nS0 nG0
      obtain ⟨g0x, g0y⟩ := cG2 G0.out
      go_wp2_with fail
      clear g0x g0y
      refine (CF.out _ HB.out R0.out).mono ?_
      rintro e w2 ⟨rfl, hb⟩
      have nHB := Lib.hid (belG HB.out hb HB.out.size)
      have nR0 := Lib.hid ((R0.out.below hb (Nat.le_refl _)).more hb.size)
      have nS0 := Lib.hid ((S0.out.below hb (Nat.le_refl _)).more hb.size)
      have nG0 := Lib.hid (oldG G0.out hb (Nat.le_refl _))
      clear hb
      clear HB R0 S0 G0
      have HB := nHB
      have R0 := nR0
      have S0 := nS0
      have G0 := nG0
      clear nHB nR0 nS0 nG0
      obtain ⟨g0x, g0y⟩ := cG2 G0.out
      go_wp2_with fail
      clear g0x g0y
      refine (C1.out _ HB.out R0.out).mono ?_
      rintro e w3 ⟨⟨A1, c1, rfl, q1, q2, h1⟩, hb⟩
      have nHB := Lib.hid (belG HB.out hb HB.out.size)
      have nR0 := Lib.hid ((R0.out.below hb (Nat.le_refl _)).more hb.size)
      have nS0 := Lib.hid ((S0.out.below hb (Nat.le_refl _)).more hb.size)
      have nG0 := Lib.hid (oldG G0.out hb (Nat.le_refl _))
      clear hb
      clear HB R0 S0 G0
      have HB := nHB
      have R0 := nR0
      have S0 := nS0
      have G0 := nG0
      clear nHB nR0 nS0 nG0
      have R1 := Lib.hid h1
      clear h1
      obtain ⟨g0x, g0y⟩ := cG2 G0.out
      go_wp2_with fail
      clear g0x g0y
      refine (CR.out _ HB.out R0.out).mono ?_
      rintro e w4 ⟨rfl, hb⟩
      have nHB := Lib.hid (belG HB.out hb HB.out.size)
      have nR0 := Lib.hid ((R0.out.below hb (Nat.le_refl _)).more hb.size)
      have nS0 := Lib.hid ((S0.out.below hb (Nat.le_refl _)).more hb.size)
      have nR1 := Lib.hid ((R1.out.below hb (Nat.le_refl _)).more hb.size)
      have nG0 := Lib.hid (oldG G0.out hb (Nat.le_refl _))
      clear hb
      clear HB R0 S0 R1 G0
      have HB := nHB
      have R0 := nR0
      have S0 := nS0
      have R1 := nR1
      have G0 := nG0
      clear nHB nR0 nS0 nR1 nG0
      go_wp2_with fail
      refine (CD1.out A1 c1 _ HB.out q1 q2 R1.out).mono ?_
      rintro e w5 ⟨⟨A2, c2, rfl, p1, p2, h2⟩, hb⟩
      have nHB := Lib.hid (belG HB.out hb HB.out.size)
      have nR0 := Lib.hid ((R0.out.below hb (Nat.le_refl _)).more hb.size)
      have nS0 := Lib.hid ((S0.out.below hb (Nat.le_refl _)).more hb.size)
      have nR1 := Lib.hid ((R1.out.below hb (Nat.le_refl _)).more hb.size)
      have nG0 := Lib.hid (oldG G0.out hb (Nat.le_refl _))
      clear hb
      clear HB R0 S0 R1 G0
      have HB := nHB
      have R0 := nR0
      have S0 := nS0
      have R1 := nR1
      have G0 := nG0
      clear nHB nR0 nS0 nR1 nG0
      have R2 := Lib.hid h2
      clear h2
      obtain ⟨V5, hV5⟩ : ∃ V, V = w5.alloc (.cells #[.int .i64 t, .slice A2 n c2] 24) := ⟨_, rfl⟩
      have ha := (Below.refl w5.heap.size w5).alloc (Nat.le_refl _) (.cells #[.int .i64 t, .slice A2 n c2] 24)
      have hg := heap_alloc_new w5 (.cells #[.int .i64 t, .slice A2 n c2] 24)
      have nHB := Lib.hid (HB.out.alloc HB.out.size (.cells #[.int .i64 t, .slice A2 n c2] 24))
      rw [← hV5] at ha hg nHB
      have nR0 := Lib.hid ((R0.out.below ha (Nat.le_refl _)).more ha.size)
      have nS0 := Lib.hid ((S0.out.below ha (Nat.le_refl _)).more ha.size)
      have nR1 := Lib.hid ((R1.out.below ha (Nat.le_refl _)).more ha.size)
      have nR2 := Lib.hid ((R2.out.below ha (Nat.le_refl _)).more ha.size)
      have nG0 := Lib.hid (oldG G0.out ha (Nat.le_refl _))
      obtain ⟨g2, hg2⟩ : ∃ g, g = w5.heap.size := ⟨_, rfl⟩
      rw [← hg2] at hg
      have HXG2 := Lib.hid hg2
      have G2 := Lib.hid hg
      have HV := Lib.hid hV5
      clear ha hg hV5 hg2
      clear HB R0 S0 R1 R2 G0
      have HB := nHB
      have R0 := nR0
      have S0 := nS0
      have R1 := nR1
      have R2 := nR2
      have G0 := nG0
      clear nHB nR0 nS0 nR1 nR2 nG0
      obtain ⟨g0x, g0y⟩ := cG2 G0.out
      rw [HV.out] at g0x g0y
      obtain ⟨g2x, g2y⟩ := cG2 G2.out
      rw [HV.out] at g2x g2y
      rw [HXG2.out] at g2x g2y
      go_wp2_with fail
      clear g0x g0y g2x g2y
      rw [← HV.out]
      (try rw [← HXG2.out])
      clear HV HXG2
      refine (SM.out A A2 c c2 _ HB.out HC1.out HC2.out R0.out R2.out).mono ?_
      rintro e w6 ⟨rfl, hb⟩
      have nHB := Lib.hid (belG HB.out hb HB.out.size)
      have nR0 := Lib.hid ((R0.out.below hb (Nat.le_refl _)).more hb.size)
      have nS0 := Lib.hid ((S0.out.below hb (Nat.le_refl _)).more hb.size)
      have nR1 := Lib.hid ((R1.out.below hb (Nat.le_refl _)).more hb.size)
      have nR2 := Lib.hid ((R2.out.below hb (Nat.le_refl _)).more hb.size)
      have nG0 := Lib.hid (oldG G0.out hb (Nat.le_refl _))
      have nG2 := Lib.hid (oldG G2.out hb (Nat.le_refl _))
      clear hb
      clear HB R0 S0 R1 R2 G0 G2
      have HB := nHB
      have R0 := nR0
      have S0 := nS0
      have R1 := nR1
      have R2 := nR2
      have G0 := nG0
      have G2 := nG2
      clear nHB nR0 nS0 nR1 nR2 nG0 nG2
      go_wp2_with fail
      refine (CD2.out _ HB.out S0.out).mono ?_
      rintro e w7 ⟨⟨A8, c8, rfl, p5, p6, h8⟩, hb⟩
      have nHB := Lib.hid (belG HB.out hb HB.out.size)
      have nR0 := Lib.hid ((R0.out.below hb (Nat.le_refl _)).more hb.size)
      have nS0 := Lib.hid ((S0.out.below hb (Nat.le_refl _)).more hb.size)
      have nR1 := Lib.hid ((R1.out.below hb (Nat.le_refl _)).more hb.size)
      have nR2 := Lib.hid ((R2.out.below hb (Nat.le_refl _)).more hb.size)
      have nG0 := Lib.hid (oldG G0.out hb (Nat.le_refl _))
      have nG2 := Lib.hid (oldG G2.out hb (Nat.le_refl _))
      clear hb
      clear HB R0 S0 R1 R2 G0 G2
      have HB := nHB
      have R0 := nR0
      have S0 := nS0
      have R1 := nR1
      have R2 := nR2
      have G0 := nG0
      have G2 := nG2
      clear nHB nR0 nS0 nR1 nR2 nG0 nG2
      have R8 := Lib.hid h8
      clear h8
      obtain ⟨V7, hV7⟩ : ∃ V, V = w7.alloc (.cells #[.int .i64 x1, .slice A8 nx c8] 24) := ⟨_, rfl⟩
      have ha := (Below.refl w7.heap.size w7).alloc (Nat.le_refl _) (.cells #[.int .i64 x1, .slice A8 nx c8] 24)
      have hg := heap_alloc_new w7 (.cells #[.int .i64 x1, .slice A8 nx c8] 24)
      have nHB := Lib.hid (HB.out.alloc HB.out.size (.cells #[.int .i64 x1, .slice A8 nx c8] 24))
      rw [← hV7] at ha hg nHB
      have nR0 := Lib.hid ((R0.out.below ha (Nat.le_refl _)).more ha.size)
      have nS0 := Lib.hid ((S0.out.below ha (Nat.le_refl _)).more ha.size)
      have nR1 := Lib.hid ((R1.out.below ha (Nat.le_refl _)).more ha.size)
      have nR2 := Lib.hid ((R2.out.below ha (Nat.le_refl _)).more ha.size)
      have nR8 := Lib.hid ((R8.out.below ha (Nat.le_refl _)).more ha.size)
      have nG0 := Lib.hid (oldG G0.out ha (Nat.le_refl _))
      have nG2 := Lib.hid (oldG G2.out ha (Nat.le_refl _))
      obtain ⟨g8, hg8⟩ : ∃ g, g = w7.heap.size := ⟨_, rfl⟩
      rw [← hg8] at hg
      have HXG8 := Lib.hid hg8
      have G8 := Lib.hid hg
      have HV := Lib.hid hV7
      clear ha hg hV7 hg8
      clear HB R0 S0 R1 R2 R8 G0 G2
      have HB := nHB
      have R0 := nR0
      have S0 := nS0
      have R1 := nR1
      have R2 := nR2
      have R8 := nR8
      have G0 := nG0
      have G2 := nG2
      clear nHB nR0 nS0 nR1 nR2 nR8 nG0 nG2
      obtain ⟨g8x, g8y⟩ := cG2 G8.out
      rw [HV.out] at g8x g8y
      rw [HXG8.out] at g8x g8y
      go_wp2_with fail
      clear g8x g8y
      rw [← HV.out]
      (try rw [← HXG8.out])
      clear HV HXG8
      refine (CW3.out A8 c8 _ HB.out p5 p6 R8.out).mono ?_
      rintro e w8 ⟨⟨A9, c9, rfl, -, -, h9⟩, hb⟩
      have nHB := Lib.hid (belG HB.out hb HB.out.size)
      have nR0 := Lib.hid ((R0.out.below hb (Nat.le_refl _)).more hb.size)
      have nS0 := Lib.hid ((S0.out.below hb (Nat.le_refl _)).more hb.size)
      have nR1 := Lib.hid ((R1.out.below hb (Nat.le_refl _)).more hb.size)
      have nR2 := Lib.hid ((R2.out.below hb (Nat.le_refl _)).more hb.size)
      have nR8 := Lib.hid ((R8.out.below hb (Nat.le_refl _)).more hb.size)
      have nG0 := Lib.hid (oldG G0.out hb (Nat.le_refl _))
      have nG2 := Lib.hid (oldG G2.out hb (Nat.le_refl _))
      have nG8 := Lib.hid (oldG G8.out hb (Nat.le_refl _))
      clear hb
      clear HB R0 S0 R1 R2 R8 G0 G2 G8
      have HB := nHB
      have R0 := nR0
      have S0 := nS0
      have R1 := nR1
      have R2 := nR2
      have R8 := nR8
      have G0 := nG0
      have G2 := nG2
      have G8 := nG8
      clear nHB nR0 nS0 nR1 nR2 nR8 nG0 nG2 nG8
      have R9 := Lib.hid h9
      clear h9
      obtain ⟨g8x, g8y⟩ := cG2 G8.out
      go_wp2_with fail
      clear g8x g8y
      refine (CR3.out A8 c8 _ HB.out p5 p6 R8.out).mono ?_
      rintro e w9 ⟨rfl, hb⟩
      have nHB := Lib.hid (belG HB.out hb HB.out.size)
      have nR0 := Lib.hid ((R0.out.below hb (Nat.le_refl _)).more hb.size)
      have nS0 := Lib.hid ((S0.out.below hb (Nat.le_refl _)).more hb.size)
      have nR1 := Lib.hid ((R1.out.below hb (Nat.le_refl _)).more hb.size)
      have nR2 := Lib.hid ((R2.out.below hb (Nat.le_refl _)).more hb.size)
      have nR8 := Lib.hid ((R8.out.below hb (Nat.le_refl _)).more hb.size)
      have nR9 := Lib.hid ((R9.out.below hb (Nat.le_refl _)).more hb.size)
      have nG0 := Lib.hid (oldG G0.out hb (Nat.le_refl _))
      have nG2 := Lib.hid (oldG G2.out hb (Nat.le_refl _))
      have nG8 := Lib.hid (oldG G8.out hb (Nat.le_refl _))
      clear hb
      clear HB R0 S0 R1 R2 R8 R9 G0 G2 G8
      have HB := nHB
      have R0 := nR0
      have S0 := nS0
      have R1 := nR1
      have R2 := nR2
      have R8 := nR8
      have R9 := nR9
      have G0 := nG0
      have G2 := nG2
      have G8 := nG8
      clear nHB nR0 nS0 nR1 nR2 nR8 nR9 nG0 nG2 nG8
      go_wp2_with fail
      refine (SB.out A9 B c9 d _ HB.out R9.out S0.out).mono ?_
      rintro e w10 ⟨rfl, rfl⟩
      go_wp2_with fail
      go_ret
      exact ⟨by first | rfl | simp, HB.out⟩
    · obtain ⟨rfl, rfl⟩ := hbad hx
      have hxb : (x3 != 0) = true := by simpa using hx
      simp only [List.length_nil] at CD2
      clear hbad hgood hx
      clear hr hs hc hz hd hcm hdm hF hok hl40 hl450 h25 hR
      obtain ⟨n, hn⟩ : ∃ n, n = l.length := ⟨_, rfl⟩
      rw [← hn] at CF C1 CR CD1 SM HC1
      rw [← hn]
      clear hn
      generalize L1.length = N1 at *
      generalize u.length = m at *
      have hb := (Below.refl W.heap.size W).alloc (Nat.le_refl _) (.cells #[.int .i64 t, .slice A n c] 24)
      have hg := heap_alloc_new W (.cells #[.int .i64 t, .slice A n c] 24)
      obtain ⟨V0, hV⟩ : ∃ V, V = W.alloc (.cells #[.int .i64 t, .slice A n c] 24) := ⟨_, rfl⟩
      rw [← hV] at hb hg
      have HB := Lib.hid hb
      have G0 := Lib.hid hg
      have nR0 := Lib.hid ((R0.out.below hb (Nat.le_refl _)).more hb.size)
      have nS0 := Lib.hid ((S0.out.below hb (Nat.le_refl _)).more hb.size)
      have HV := Lib.hid hV
      clear hb hg hV
      clear R0 S0
      have R0 := nR0
      have S0 := nS0
      clear nR0 nS0
      go_enter Tryd.func6, Tryd.ntmps6
      go_wp2_with fail
      rw [← HV.out]
      clear HV
      refine (shown7_any _ (HT.out.below HB.out)).mono ?_
      rintro e w1 ⟨rfl, hb⟩
      have nHB := Lib.hid (belG HB.out hb HB.out.size)
      have nR0 := Lib.hid ((R0.out.below hb (Nat.le_refl _)).more hb.size)
      have nS0 := Lib.hid ((S0.out.below hb (Nat.le_refl _)).more hb.size)
      have nG0 := Lib.hid (oldG G0.out hb (Nat.le_refl _))
      clear hb
      clear HB R0 S0 G0
      have HB := nHB
      have R0 := nR0
      have S0 := nS0
      have G0 := nG0
      clear nHB nR0 nS0 nG0
      obtain ⟨g0x, g0y⟩ := cG2 G0.out
      go_wp2_with fail
      clear g0x g0y
      refine (CF.out _ HB.out R0.out).mono ?_
      rintro e w2 ⟨rfl, hb⟩
      have nHB := Lib.hid (belG HB.out hb HB.out.size)
      have nR0 := Lib.hid ((R0.out.below hb (Nat.le_refl _)).more hb.size)
      have nS0 := Lib.hid ((S0.out.below hb (Nat.le_refl _)).more hb.size)
      have nG0 := Lib.hid (oldG G0.out hb (Nat.le_refl _))
      clear hb
      clear HB R0 S0 G0
      have HB := nHB
      have R0 := nR0
      have S0 := nS0
      have G0 := nG0
      clear nHB nR0 nS0 nG0
      obtain ⟨g0x, g0y⟩ := cG2 G0.out
      go_wp2_with fail
      clear g0x g0y
      refine (C1.out _ HB.out R0.out).mono ?_
      rintro e w3 ⟨⟨A1, c1, rfl, q1, q2, h1⟩, hb⟩
      have nHB := Lib.hid (belG HB.out hb HB.out.size)
      have nR0 := Lib.hid ((R0.out.below hb (Nat.le_refl _)).more hb.size)
      have nS0 := Lib.hid ((S0.out.below hb (Nat.le_refl _)).more hb.size)
      have nG0 := Lib.hid (oldG G0.out hb (Nat.le_refl _))
      clear hb
      clear HB R0 S0 G0
      have HB := nHB
      have R0 := nR0
      have S0 := nS0
      have G0 := nG0
      clear nHB nR0 nS0 nG0
      have R1 := Lib.hid h1
      clear h1
      obtain ⟨g0x, g0y⟩ := cG2 G0.out
      go_wp2_with fail
      clear g0x g0y
      refine (CR.out _ HB.out R0.out).mono ?_
      rintro e w4 ⟨rfl, hb⟩
      have nHB := Lib.hid (belG HB.out hb HB.out.size)
      have nR0 := Lib.hid ((R0.out.below hb (Nat.le_refl _)).more hb.size)
      have nS0 := Lib.hid ((S0.out.below hb (Nat.le_refl _)).more hb.size)
      have nR1 := Lib.hid ((R1.out.below hb (Nat.le_refl _)).more hb.size)
      have nG0 := Lib.hid (oldG G0.out hb (Nat.le_refl _))
      clear hb
      clear HB R0 S0 R1 G0
      have HB := nHB
      have R0 := nR0
      have S0 := nS0
      have R1 := nR1
      have G0 := nG0
      clear nHB nR0 nS0 nR1 nG0
      go_wp2_with fail
      refine (CD1.out A1 c1 _ HB.out q1 q2 R1.out).mono ?_
      rintro e w5 ⟨⟨A2, c2, rfl, p1, p2, h2⟩, hb⟩
      have nHB := Lib.hid (belG HB.out hb HB.out.size)
      have nR0 := Lib.hid ((R0.out.below hb (Nat.le_refl _)).more hb.size)
      have nS0 := Lib.hid ((S0.out.below hb (Nat.le_refl _)).more hb.size)
      have nR1 := Lib.hid ((R1.out.below hb (Nat.le_refl _)).more hb.size)
      have nG0 := Lib.hid (oldG G0.out hb (Nat.le_refl _))
      clear hb
      clear HB R0 S0 R1 G0
      have HB := nHB
      have R0 := nR0
      have S0 := nS0
      have R1 := nR1
      have G0 := nG0
      clear nHB nR0 nS0 nR1 nG0
      have R2 := Lib.hid h2
      clear h2
      obtain ⟨V5, hV5⟩ : ∃ V, V = w5.alloc (.cells #[.int .i64 t, .slice A2 n c2] 24) := ⟨_, rfl⟩
      have ha := (Below.refl w5.heap.size w5).alloc (Nat.le_refl _) (.cells #[.int .i64 t, .slice A2 n c2] 24)
      have hg := heap_alloc_new w5 (.cells #[.int .i64 t, .slice A2 n c2] 24)
      have nHB := Lib.hid (HB.out.alloc HB.out.size (.cells #[.int .i64 t, .slice A2 n c2] 24))
      rw [← hV5] at ha hg nHB
      have nR0 := Lib.hid ((R0.out.below ha (Nat.le_refl _)).more ha.size)
      have nS0 := Lib.hid ((S0.out.below ha (Nat.le_refl _)).more ha.size)
      have nR1 := Lib.hid ((R1.out.below ha (Nat.le_refl _)).more ha.size)
      have nR2 := Lib.hid ((R2.out.below ha (Nat.le_refl _)).more ha.size)
      have nG0 := Lib.hid (oldG G0.out ha (Nat.le_refl _))
      obtain ⟨g2, hg2⟩ : ∃ g, g = w5.heap.size := ⟨_, rfl⟩
      rw [← hg2] at hg
      have HXG2 := Lib.hid hg2
      have G2 := Lib.hid hg
      have HV := Lib.hid hV5
      clear ha hg hV5 hg2
      clear HB R0 S0 R1 R2 G0
      have HB := nHB
      have R0 := nR0
      have S0 := nS0
      have R1 := nR1
      have R2 := nR2
      have G0 := nG0
      clear nHB nR0 nS0 nR1 nR2 nG0
      obtain ⟨g0x, g0y⟩ := cG2 G0.out
      rw [HV.out] at g0x g0y
      obtain ⟨g2x, g2y⟩ := cG2 G2.out
      rw [HV.out] at g2x g2y
      rw [HXG2.out] at g2x g2y
      go_wp2_with fail
      clear g0x g0y g2x g2y
      rw [← HV.out]
      (try rw [← HXG2.out])
      clear HV HXG2
      refine (SM.out A A2 c c2 _ HB.out HC1.out HC2.out R0.out R2.out).mono ?_
      rintro e w6 ⟨rfl, hb⟩
      have nHB := Lib.hid (belG HB.out hb HB.out.size)
      have nR0 := Lib.hid ((R0.out.below hb (Nat.le_refl _)).more hb.size)
      have nS0 := Lib.hid ((S0.out.below hb (Nat.le_refl _)).more hb.size)
      have nR1 := Lib.hid ((R1.out.below hb (Nat.le_refl _)).more hb.size)
      have nR2 := Lib.hid ((R2.out.below hb (Nat.le_refl _)).more hb.size)
      have nG0 := Lib.hid (oldG G0.out hb (Nat.le_refl _))
      have nG2 := Lib.hid (oldG G2.out hb (Nat.le_refl _))
      clear hb
      clear HB R0 S0 R1 R2 G0 G2
      have HB := nHB
      have R0 := nR0
      have S0 := nS0
      have R1 := nR1
      have R2 := nR2
      have G0 := nG0
      have G2 := nG2
      clear nHB nR0 nS0 nR1 nR2 nG0 nG2
      go_wp2_with fail
      refine (CD2.out _ HB.out S0.out).mono ?_
      rintro e w7 ⟨⟨A8, c8, rfl, -, -, -⟩, hb⟩
      have nHB := Lib.hid (belG HB.out hb HB.out.size)
      have nR0 := Lib.hid ((R0.out.below hb (Nat.le_refl _)).more hb.size)
      have nS0 := Lib.hid ((S0.out.below hb (Nat.le_refl _)).more hb.size)
      have nR1 := Lib.hid ((R1.out.below hb (Nat.le_refl _)).more hb.size)
      have nR2 := Lib.hid ((R2.out.below hb (Nat.le_refl _)).more hb.size)
      have nG0 := Lib.hid (oldG G0.out hb (Nat.le_refl _))
      have nG2 := Lib.hid (oldG G2.out hb (Nat.le_refl _))
      clear hb
      clear HB R0 S0 R1 R2 G0 G2
      have HB := nHB
      have R0 := nR0
      have S0 := nS0
      have R1 := nR1
      have R2 := nR2
      have G0 := nG0
      have G2 := nG2
      clear nHB nR0 nS0 nR1 nR2 nG0 nG2
      obtain ⟨V7, hV7⟩ : ∃ V, V = w7.alloc (.cells #[.int .i64 0, .slice A8 0 c8] 24) := ⟨_, rfl⟩
      have ha := (Below.refl w7.heap.size w7).alloc (Nat.le_refl _) (.cells #[.int .i64 0, .slice A8 0 c8] 24)
      have hg := heap_alloc_new w7 (.cells #[.int .i64 0, .slice A8 0 c8] 24)
      have nHB := Lib.hid (HB.out.alloc HB.out.size (.cells #[.int .i64 0, .slice A8 0 c8] 24))
      rw [← hV7] at ha hg nHB
      have nR0 := Lib.hid ((R0.out.below ha (Nat.le_refl _)).more ha.size)
      have nS0 := Lib.hid ((S0.out.below ha (Nat.le_refl _)).more ha.size)
      have nR1 := Lib.hid ((R1.out.below ha (Nat.le_refl _)).more ha.size)
      have nR2 := Lib.hid ((R2.out.below ha (Nat.le_refl _)).more ha.size)
      have nG0 := Lib.hid (oldG G0.out ha (Nat.le_refl _))
      have nG2 := Lib.hid (oldG G2.out ha (Nat.le_refl _))
      obtain ⟨g8, hg8⟩ : ∃ g, g = w7.heap.size := ⟨_, rfl⟩
      rw [← hg8] at hg
      have HXG8 := Lib.hid hg8
      have G8 := Lib.hid hg
      have HV := Lib.hid hV7
      clear ha hg hV7 hg8
      clear HB R0 S0 R1 R2 G0 G2
      have HB := nHB
      have R0 := nR0
      have S0 := nS0
      have R1 := nR1
      have R2 := nR2
      have G0 := nG0
      have G2 := nG2
      clear nHB nR0 nS0 nR1 nR2 nG0 nG2
      obtain ⟨g8x, g8y⟩ := cG2 G8.out
      rw [HV.out] at g8x g8y
      rw [HXG8.out] at g8x g8y
      go_wp2_with fail
      clear g8x g8y
      have HBf := Lib.hid (show Below W.heap.size W V7 from HB.out)
      go_ret
      exact ⟨by first | rfl | simp, by rw [← HV.out]; exact HBf.out⟩
  case neg =>
    rw [(isoW_no hR).1, (isoW_no hR).2] at C1
    rw [decide_eq_false hR] at CR
    by_cases hx : x3 = 0
    · obtain ⟨f1, f2, f3⟩ := hgood hx
      subst hx
      have CW3 := Lib.hid (fun (A3 : Option Addr) (c3 : Nat) w (hB : Below W.heap.size W w) (p1 : x2.length ≤ c3) (p2 : c3 ≤ 9223372036854775807) (h : RdF w w.heap.size A3 x2) => iWrite_any x1 A3 x2 c3 w f1.tb f1.ok p1 p2 h (hT.below hB))
      have CR3 := Lib.hid (fun (A3 : Option Addr) (c3 : Nat) w (hB : Below W.heap.size W w) (p1 : x2.length ≤ c3) (p2 : c3 ≤ 9223372036854775807) (h : RdF w w.heap.size A3 x2) => refRightM_any x1 A3 x2 c3 w f1.tb (by have := f1.ok.len; omega) (fun x hx => by have := f1.ok.small x hx; omega) p1 p2 h)
      have SB := Lib.hid (fun (A1 A2 : Option Addr) (c1 c2 : Nat) w (hB : Below W.heap.size W w) (h1 : Rd w w.heap.size A1 u) (h2 : Rd w w.heap.size A2 u) => same_any A1 A2 u u c1 c2 _ _ w h1 h2)
      rw [(isoW_right f1).1, (isoW_right f1).2, f2] at CW3
      rw [decide_eq_true f1] at CR3
      simp only [decide_true] at SB
      clear hbad hgood f1 f2 f3
      generalize x2.length = nx at *
      clear hr hs hc hz hd hcm hdm hF hok hl40 hl450 h25 hR
      obtain ⟨n, hn⟩ : ∃ n, n = l.length := ⟨_, rfl⟩
      rw [← hn] at CF C1 CR
      rw [← hn]
      clear hn
      simp only [List.length_nil] at C1
      generalize u.length = m at *
      have hb := (Below.refl W.heap.size W).alloc (Nat.le_refl _) (.cells #[.int .i64 t, .slice A n c] 24)
      have hg := heap_alloc_new W (.cells #[.int .i64 t, .slice A n c] 24)
      obtain ⟨V0, hV⟩ : ∃ V, V = W.alloc (.cells #[.int .i64 t, .slice A n c] 24) := ⟨_, rfl⟩
      rw [← hV] at hb hg
      have HB := Lib.hid hb
      have G0 := Lib.hid hg
      have nR0 := Lib.hid ((R0.out.below hb (Nat.le_refl _)).more hb.size)
      have nS0 := Lib.hid ((S0.out.below hb (Nat.le_refl _)).more hb.size)
      have HV := Lib.hid hV
      clear hb hg hV
      clear R0 S0
      have R0 := nR0
      have S0 := nS0
      clear nR0 nS0
      go_enter Tryd.func6, Tryd.ntmps6
      go_wp2_with fail
      rw [← HV.out]
      clear HV
      refine (shown7_any _ (HT.out.below HB.out)).mono ?_
      rintro e w1 ⟨rfl, hb⟩
      have nHB := Lib.hid (belG HB.out hb HB.out.size)
      have nR0 := Lib.hid ((R0.out.below hb (Nat.le_refl _)).more hb.size)
      have nS0 := Lib.hid ((S0.out.below hb (Nat.le_refl _)).more hb.size)
      have nG0 := Lib.hid (oldG G0.out hb (Nat.le_refl _))
      clear hb
      clear HB R0 S0 G0
      have HB := nHB
      have R0 := nR0
      have S0 := nS0
      have G0 := nG0
      clear nHB nR0 nS0 nG0
      obtain ⟨g0x, g0y⟩ := cG2 G0.out
      go_wp2_with fail
      clear g0x g0y
      refine (CF.out _ HB.out R0.out).mono ?_
      rintro e w2 ⟨rfl, hb⟩
      have nHB := Lib.hid (belG HB.out hb HB.out.size)
      have nR0 := Lib.hid ((R0.out.below hb (Nat.le_refl _)).more hb.size)
      have nS0 := Lib.hid ((S0.out.below hb (Nat.le_refl _)).more hb.size)
      have nG0 := Lib.hid (oldG G0.out hb (Nat.le_refl _))
      clear hb
      clear HB R0 S0 G0
      have HB := nHB
      have R0 := nR0
      have S0 := nS0
      have G0 := nG0
      clear nHB nR0 nS0 nG0
      obtain ⟨g0x, g0y⟩ := cG2 G0.out
      go_wp2_with fail
      clear g0x g0y
      refine (C1.out _ HB.out R0.out).mono ?_
      rintro e w3 ⟨⟨A1, c1, rfl, -, -, -⟩, hb⟩
      have nHB := Lib.hid (belG HB.out hb HB.out.size)
      have nR0 := Lib.hid ((R0.out.below hb (Nat.le_refl _)).more hb.size)
      have nS0 := Lib.hid ((S0.out.below hb (Nat.le_refl _)).more hb.size)
      have nG0 := Lib.hid (oldG G0.out hb (Nat.le_refl _))
      clear hb
      clear HB R0 S0 G0
      have HB := nHB
      have R0 := nR0
      have S0 := nS0
      have G0 := nG0
      clear nHB nR0 nS0 nG0
      obtain ⟨g0x, g0y⟩ := cG2 G0.out
      go_wp2_with fail
      clear g0x g0y
      refine (CR.out _ HB.out R0.out).mono ?_
      rintro e w4 ⟨rfl, hb⟩
      have nHB := Lib.hid (belG HB.out hb HB.out.size)
      have nR0 := Lib.hid ((R0.out.below hb (Nat.le_refl _)).more hb.size)
      have nS0 := Lib.hid ((S0.out.below hb (Nat.le_refl _)).more hb.size)
      have nG0 := Lib.hid (oldG G0.out hb (Nat.le_refl _))
      clear hb
      clear HB R0 S0 G0
      have HB := nHB
      have R0 := nR0
      have S0 := nS0
      have G0 := nG0
      clear nHB nR0 nS0 nG0
      go_wp2_with fail
      refine (CD2.out _ HB.out S0.out).mono ?_
      rintro e w5 ⟨⟨A8, c8, rfl, p5, p6, h8⟩, hb⟩
      have nHB := Lib.hid (belG HB.out hb HB.out.size)
      have nR0 := Lib.hid ((R0.out.below hb (Nat.le_refl _)).more hb.size)
      have nS0 := Lib.hid ((S0.out.below hb (Nat.le_refl _)).more hb.size)
      have nG0 := Lib.hid (oldG G0.out hb (Nat.le_refl _))
      clear hb
      clear HB R0 S0 G0
      have HB := nHB
      have R0 := nR0
      have S0 := nS0
      have G0 := nG0
      clear nHB nR0 nS0 nG0
      have R8 := Lib.hid h8
      clear h8
      obtain ⟨V5, hV5⟩ : ∃ V, V = w5.alloc (.cells #[.int .i64 x1, .slice A8 nx c8] 24) := ⟨_, rfl⟩
      have ha := (Below.refl w5.heap.size w5).alloc (Nat.le_refl _) (.cells #[.int .i64 x1, .slice A8 nx c8] 24)
      have hg := heap_alloc_new w5 (.cells #[.int .i64 x1, .slice A8 nx c8] 24)
      have nHB := Lib.hid (HB.out.alloc HB.out.size (.cells #[.int .i64 x1, .slice A8 nx c8] 24))
      rw [← hV5] at ha hg nHB
      have nR0 := Lib.hid ((R0.out.below ha (Nat.le_refl _)).more ha.size)
      have nS0 := Lib.hid ((S0.out.below ha (Nat.le_refl _)).more ha.size)
      have nR8 := Lib.hid ((R8.out.below ha (Nat.le_refl _)).more ha.size)
      have nG0 := Lib.hid (oldG G0.out ha (Nat.le_refl _))
      obtain ⟨g8, hg8⟩ : ∃ g, g = w5.heap.size := ⟨_, rfl⟩
      rw [← hg8] at hg
      have HXG8 := Lib.hid hg8
      have G8 := Lib.hid hg
      have HV := Lib.hid hV5
      clear ha hg hV5 hg8
      clear HB R0 S0 R8 G0
      have HB := nHB
      have R0 := nR0
      have S0 := nS0
      have R8 := nR8
      have G0 := nG0
      clear nHB nR0 nS0 nR8 nG0
      obtain ⟨g8x, g8y⟩ := cG2 G8.out
      rw [HV.out] at g8x g8y
      rw [HXG8.out] at g8x g8y
      go_wp2_with fail
      clear g8x g8y
      rw [← HV.out]
      (try rw [← HXG8.out])
      clear HV HXG8
      refine (CW3.out A8 c8 _ HB.out p5 p6 R8.out).mono ?_
      rintro e w6 ⟨⟨A9, c9, rfl, -, -, h9⟩, hb⟩
      have nHB := Lib.hid (belG HB.out hb HB.out.size)
      have nR0 := Lib.hid ((R0.out.below hb (Nat.le_refl _)).more hb.size)
      have nS0 := Lib.hid ((S0.out.below hb (Nat.le_refl _)).more hb.size)
      have nR8 := Lib.hid ((R8.out.below hb (Nat.le_refl _)).more hb.size)
      have nG0 := Lib.hid (oldG G0.out hb (Nat.le_refl _))
      have nG8 := Lib.hid (oldG G8.out hb (Nat.le_refl _))
      clear hb
      clear HB R0 S0 R8 G0 G8
      have HB := nHB
      have R0 := nR0
      have S0 := nS0
      have R8 := nR8
      have G0 := nG0
      have G8 := nG8
      clear nHB nR0 nS0 nR8 nG0 nG8
      have R9 := Lib.hid h9
      clear h9
      obtain ⟨g8x, g8y⟩ := cG2 G8.out
      go_wp2_with fail
      clear g8x g8y
      refine (CR3.out A8 c8 _ HB.out p5 p6 R8.out).mono ?_
      rintro e w7 ⟨rfl, hb⟩
      have nHB := Lib.hid (belG HB.out hb HB.out.size)
      have nR0 := Lib.hid ((R0.out.below hb (Nat.le_refl _)).more hb.size)
      have nS0 := Lib.hid ((S0.out.below hb (Nat.le_refl _)).more hb.size)
      have nR8 := Lib.hid ((R8.out.below hb (Nat.le_refl _)).more hb.size)
      have nR9 := Lib.hid ((R9.out.below hb (Nat.le_refl _)).more hb.size)
      have nG0 := Lib.hid (oldG G0.out hb (Nat.le_refl _))
      have nG8 := Lib.hid (oldG G8.out hb (Nat.le_refl _))
      clear hb
      clear HB R0 S0 R8 R9 G0 G8
      have HB := nHB
      have R0 := nR0
      have S0 := nS0
      have R8 := nR8
      have R9 := nR9
      have G0 := nG0
      have G8 := nG8
      clear nHB nR0 nS0 nR8 nR9 nG0 nG8
      go_wp2_with fail
      refine (SB.out A9 B c9 d _ HB.out R9.out S0.out).mono ?_
      rintro e w8 ⟨rfl, rfl⟩
      go_wp2_with fail
      go_ret
      exact ⟨by first | rfl | simp, HB.out⟩
    · obtain ⟨rfl, rfl⟩ := hbad hx
      have hxb : (x3 != 0) = true := by simpa using hx
      simp only [List.length_nil] at CD2
      clear hbad hgood hx
      clear hr hs hc hz hd hcm hdm hF hok hl40 hl450 h25 hR
      obtain ⟨n, hn⟩ : ∃ n, n = l.length := ⟨_, rfl⟩
      rw [← hn] at CF C1 CR
      rw [← hn]
      clear hn
      simp only [List.length_nil] at C1
      generalize u.length = m at *
      have hb := (Below.refl W.heap.size W).alloc (Nat.le_refl _) (.cells #[.int .i64 t, .slice A n c] 24)
      have hg := heap_alloc_new W (.cells #[.int .i64 t, .slice A n c] 24)
      obtain ⟨V0, hV⟩ : ∃ V, V = W.alloc (.cells #[.int .i64 t, .slice A n c] 24) := ⟨_, rfl⟩
      rw [← hV] at hb hg
      have HB := Lib.hid hb
      have G0 := Lib.hid hg
      have nR0 := Lib.hid ((R0.out.below hb (Nat.le_refl _)).more hb.size)
      have nS0 := Lib.hid ((S0.out.below hb (Nat.le_refl _)).more hb.size)
      have HV := Lib.hid hV
      clear hb hg hV
      clear R0 S0
      have R0 := nR0
      have S0 := nS0
      clear nR0 nS0
      go_enter Tryd.func6, Tryd.ntmps6
      go_wp2_with fail
      rw [← HV.out]
      clear HV
      refine (shown7_any _ (HT.out.below HB.out)).mono ?_
      rintro e w1 ⟨rfl, hb⟩
      have nHB := Lib.hid (belG HB.out hb HB.out.size)
      have nR0 := Lib.hid ((R0.out.below hb (Nat.le_refl _)).more hb.size)
      have nS0 := Lib.hid ((S0.out.below hb (Nat.le_refl _)).more hb.size)
      have nG0 := Lib.hid (oldG G0.out hb (Nat.le_refl _))
      clear hb
      clear HB R0 S0 G0
      have HB := nHB
      have R0 := nR0
      have S0 := nS0
      have G0 := nG0
      clear nHB nR0 nS0 nG0
      obtain ⟨g0x, g0y⟩ := cG2 G0.out
      go_wp2_with fail
      clear g0x g0y
      refine (CF.out _ HB.out R0.out).mono ?_
      rintro e w2 ⟨rfl, hb⟩
      have nHB := Lib.hid (belG HB.out hb HB.out.size)
      have nR0 := Lib.hid ((R0.out.below hb (Nat.le_refl _)).more hb.size)
      have nS0 := Lib.hid ((S0.out.below hb (Nat.le_refl _)).more hb.size)
      have nG0 := Lib.hid (oldG G0.out hb (Nat.le_refl _))
      clear hb
      clear HB R0 S0 G0
      have HB := nHB
      have R0 := nR0
      have S0 := nS0
      have G0 := nG0
      clear nHB nR0 nS0 nG0
      obtain ⟨g0x, g0y⟩ := cG2 G0.out
      go_wp2_with fail
      clear g0x g0y
      refine (C1.out _ HB.out R0.out).mono ?_
      rintro e w3 ⟨⟨A1, c1, rfl, -, -, -⟩, hb⟩
      have nHB := Lib.hid (belG HB.out hb HB.out.size)
      have nR0 := Lib.hid ((R0.out.below hb (Nat.le_refl _)).more hb.size)
      have nS0 := Lib.hid ((S0.out.below hb (Nat.le_refl _)).more hb.size)
      have nG0 := Lib.hid (oldG G0.out hb (Nat.le_refl _))
      clear hb
      clear HB R0 S0 G0
      have HB := nHB
      have R0 := nR0
      have S0 := nS0
      have G0 := nG0
      clear nHB nR0 nS0 nG0
      obtain ⟨g0x, g0y⟩ := cG2 G0.out
      go_wp2_with fail
      clear g0x g0y
      refine (CR.out _ HB.out R0.out).mono ?_
      rintro e w4 ⟨rfl, hb⟩
      have nHB := Lib.hid (belG HB.out hb HB.out.size)
      have nR0 := Lib.hid ((R0.out.below hb (Nat.le_refl _)).more hb.size)
      have nS0 := Lib.hid ((S0.out.below hb (Nat.le_refl _)).more hb.size)
      have nG0 := Lib.hid (oldG G0.out hb (Nat.le_refl _))
      clear hb
      clear HB R0 S0 G0
      have HB := nHB
      have R0 := nR0
      have S0 := nS0
      have G0 := nG0
      clear nHB nR0 nS0 nG0
      go_wp2_with fail
      refine (CD2.out _ HB.out S0.out).mono ?_
      rintro e w5 ⟨⟨A8, c8, rfl, -, -, -⟩, hb⟩
      have nHB := Lib.hid (belG HB.out hb HB.out.size)
      have nR0 := Lib.hid ((R0.out.below hb (Nat.le_refl _)).more hb.size)
      have nS0 := Lib.hid ((S0.out.below hb (Nat.le_refl _)).more hb.size)
      have nG0 := Lib.hid (oldG G0.out hb (Nat.le_refl _))
      clear hb
      clear HB R0 S0 G0
      have HB := nHB
      have R0 := nR0
      have S0 := nS0
      have G0 := nG0
      clear nHB nR0 nS0 nG0
      obtain ⟨V5, hV5⟩ : ∃ V, V = w5.alloc (.cells #[.int .i64 0, .slice A8 0 c8] 24) := ⟨_, rfl⟩
      have ha := (Below.refl w5.heap.size w5).alloc (Nat.le_refl _) (.cells #[.int .i64 0, .slice A8 0 c8] 24)
      have hg := heap_alloc_new w5 (.cells #[.int .i64 0, .slice A8 0 c8] 24)
      have nHB := Lib.hid (HB.out.alloc HB.out.size (.cells #[.int .i64 0, .slice A8 0 c8] 24))
      rw [← hV5] at ha hg nHB
      have nR0 := Lib.hid ((R0.out.below ha (Nat.le_refl _)).more ha.size)
      have nS0 := Lib.hid ((S0.out.below ha (Nat.le_refl _)).more ha.size)
      have nG0 := Lib.hid (oldG G0.out ha (Nat.le_refl _))
      obtain ⟨g8, hg8⟩ : ∃ g, g = w5.heap.size := ⟨_, rfl⟩
      rw [← hg8] at hg
      have HXG8 := Lib.hid hg8
      have G8 := Lib.hid hg
      have HV := Lib.hid hV5
      clear ha hg hV5 hg8
      clear HB R0 S0 G0
      have HB := nHB
      have R0 := nR0
      have S0 := nS0
      have G0 := nG0
      clear nHB nR0 nS0 nG0
      obtain ⟨g8x, g8y⟩ := cG2 G8.out
      rw [HV.out] at g8x g8y
      rw [HXG8.out] at g8x g8y
      go_wp2_with fail
      clear g8x g8y
      have HBf := Lib.hid (show Below W.heap.size W V5 from HB.out)
      go_ret
      exact ⟨by first | rfl | simp, by rw [← HV.out]; exact HBf.out⟩
end Go.Proofs.YtpfjecjfooefoaaDoor
