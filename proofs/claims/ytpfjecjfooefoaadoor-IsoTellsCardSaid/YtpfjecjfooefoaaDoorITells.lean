
/- IsoTells' walk. -/
import Derived.Test.YtpfjecjfooefoaaDoorJ40
namespace Go.Proofs.YtpfjecjfooefoaaDoor
open Go.RowKit

set_option maxRecDepth 100000 in
set_option maxHeartbeats 4000000 in
theorem isoTells_walk (t : Int) (A : Option Addr) (l : List Fl) (c : Nat) (u : Int) (B : Option Addr) (k : List Fl) (d : Nat) (mti : Int) (W : World) (ht : -9223372036854775808 ≤ t ∧ t ≤ 9223372036854775807) (hc : l.length ≤ c) (hcm : c ≤ 9223372036854775807) (hz : I64f l) (hr : RdF W W.heap.size A l) (ht2 : -9223372036854775808 ≤ u ∧ u ≤ 9223372036854775807) (hc2 : k.length ≤ d) (hcm2 : d ≤ 9223372036854775807) (hz2 : I64f k) (hr2 : RdF W W.heap.size B k) (hm : -9223372036854775808 ≤ mti ∧ mti ≤ 9223372036854775807) (hT : Tb W) :
    Calls Tryd.prog 3 #[.agg #[.int .i64 t, .slice A l.length c], .agg #[.int .i64 u, .slice B k.length d], .int .i64 mti] W fun e W' => e = .returned (.bool true) ∧ Below W.heap.size W W' := by
  have HT := Lib.hid hT
  have R0 := Lib.hid hr
  have R1 := Lib.hid hr2
  have CF := Lib.hid (fun w (hB : Below W.heap.size W w) (h : RdF w w.heap.size A l) => refFew_any t A l c w hc hcm h)
  have CF2 := Lib.hid (fun w (hB : Below W.heap.size W w) (h2 : RdF w w.heap.size B k) => refFew_any u B k d w hc2 hcm2 h2)
  by_cases hF : fewF l = true
  case neg =>
    rw [Bool.not_eq_true] at hF
    rw [hF] at CF
    clear hr hr2 hc hc2 hz hz2 hcm hcm2
    obtain ⟨n, hn⟩ : ∃ n, n = l.length := ⟨_, rfl⟩
    obtain ⟨m, hm'⟩ : ∃ n, n = k.length := ⟨_, rfl⟩
    rw [← hn] at CF
    rw [← hm'] at CF2
    rw [← hn, ← hm']
    clear hn hm'
    obtain ⟨V0, hV, hb, hg, hg2⟩ := box2 W #[.int .i64 t, .slice A n c] #[.int .i64 u, .slice B m d] 24 24
    have HB := Lib.hid hb
    have G0 := Lib.hid hg
    have G1 := Lib.hid hg2
    have nR0 := Lib.hid ((R0.out.below hb (Nat.le_refl _)).more hb.size)
    have nR1 := Lib.hid ((R1.out.below hb (Nat.le_refl _)).more hb.size)
    have HV := Lib.hid hV
    clear hb hg hg2 hV
    clear R0 R1
    have R0 := nR0
    have R1 := nR1
    clear nR0 nR1
    go_enter Tryd.func3, Tryd.ntmps3
    go_wp2_with fail
    rw [← HV.out]
    clear HV
    refine (shown7_any _ (HT.out.below HB.out)).mono ?_
    rintro e w1 ⟨rfl, hb⟩
    have nHB := Lib.hid (belG HB.out hb HB.out.size)
    have nR0 := Lib.hid ((R0.out.below hb (Nat.le_refl _)).more hb.size)
    have nR1 := Lib.hid ((R1.out.below hb (Nat.le_refl _)).more hb.size)
    have nG0 := Lib.hid (oldG G0.out hb (Nat.le_refl _))
    have nG1 := Lib.hid (oldG G1.out hb (Nat.le_refl _))
    clear hb
    clear HB R0 R1 G0 G1
    have HB := nHB
    have R0 := nR0
    have R1 := nR1
    have G0 := nG0
    have G1 := nG1
    clear nHB nR0 nR1 nG0 nG1
    obtain ⟨g0x, g0y⟩ := cG2 G0.out
    go_wp2_with fail
    clear g0x g0y
    refine (CF.out _ HB.out R0.out).mono ?_
    rintro e w2 ⟨rfl, hb⟩
    have nHB := Lib.hid (belG HB.out hb HB.out.size)
    have nR0 := Lib.hid ((R0.out.below hb (Nat.le_refl _)).more hb.size)
    have nR1 := Lib.hid ((R1.out.below hb (Nat.le_refl _)).more hb.size)
    have nG0 := Lib.hid (oldG G0.out hb (Nat.le_refl _))
    have nG1 := Lib.hid (oldG G1.out hb (Nat.le_refl _))
    clear hb
    clear HB R0 R1 G0 G1
    have HB := nHB
    have R0 := nR0
    have R1 := nR1
    have G0 := nG0
    have G1 := nG1
    clear nHB nR0 nR1 nG0 nG1
    go_wp2_with fail
    go_ret
    exact ⟨rfl, HB.out⟩
  rw [hF] at CF
  by_cases hF2 : fewF k = true
  case neg =>
    rw [Bool.not_eq_true] at hF2
    rw [hF2] at CF2
    clear hr hr2 hc hc2 hz hz2 hcm hcm2
    obtain ⟨n, hn⟩ : ∃ n, n = l.length := ⟨_, rfl⟩
    obtain ⟨m, hm'⟩ : ∃ n, n = k.length := ⟨_, rfl⟩
    rw [← hn] at CF
    rw [← hm'] at CF2
    rw [← hn, ← hm']
    clear hn hm'
    obtain ⟨V0, hV, hb, hg, hg2⟩ := box2 W #[.int .i64 t, .slice A n c] #[.int .i64 u, .slice B m d] 24 24
    have HB := Lib.hid hb
    have G0 := Lib.hid hg
    have G1 := Lib.hid hg2
    have nR0 := Lib.hid ((R0.out.below hb (Nat.le_refl _)).more hb.size)
    have nR1 := Lib.hid ((R1.out.below hb (Nat.le_refl _)).more hb.size)
    have HV := Lib.hid hV
    clear hb hg hg2 hV
    clear R0 R1
    have R0 := nR0
    have R1 := nR1
    clear nR0 nR1
    go_enter Tryd.func3, Tryd.ntmps3
    go_wp2_with fail
    rw [← HV.out]
    clear HV
    refine (shown7_any _ (HT.out.below HB.out)).mono ?_
    rintro e w1 ⟨rfl, hb⟩
    have nHB := Lib.hid (belG HB.out hb HB.out.size)
    have nR0 := Lib.hid ((R0.out.below hb (Nat.le_refl _)).more hb.size)
    have nR1 := Lib.hid ((R1.out.below hb (Nat.le_refl _)).more hb.size)
    have nG0 := Lib.hid (oldG G0.out hb (Nat.le_refl _))
    have nG1 := Lib.hid (oldG G1.out hb (Nat.le_refl _))
    clear hb
    clear HB R0 R1 G0 G1
    have HB := nHB
    have R0 := nR0
    have R1 := nR1
    have G0 := nG0
    have G1 := nG1
    clear nHB nR0 nR1 nG0 nG1
    obtain ⟨g0x, g0y⟩ := cG2 G0.out
    go_wp2_with fail
    clear g0x g0y
    refine (CF.out _ HB.out R0.out).mono ?_
    rintro e w2 ⟨rfl, hb⟩
    have nHB := Lib.hid (belG HB.out hb HB.out.size)
    have nR0 := Lib.hid ((R0.out.below hb (Nat.le_refl _)).more hb.size)
    have nR1 := Lib.hid ((R1.out.below hb (Nat.le_refl _)).more hb.size)
    have nG0 := Lib.hid (oldG G0.out hb (Nat.le_refl _))
    have nG1 := Lib.hid (oldG G1.out hb (Nat.le_refl _))
    clear hb
    clear HB R0 R1 G0 G1
    have HB := nHB
    have R0 := nR0
    have R1 := nR1
    have G0 := nG0
    have G1 := nG1
    clear nHB nR0 nR1 nG0 nG1
    obtain ⟨g1x, g1y⟩ := cG2 G1.out
    go_wp2_with fail
    clear g1x g1y
    refine (CF2.out _ HB.out R1.out).mono ?_
    rintro e w3 ⟨rfl, hb⟩
    have nHB := Lib.hid (belG HB.out hb HB.out.size)
    have nR0 := Lib.hid ((R0.out.below hb (Nat.le_refl _)).more hb.size)
    have nR1 := Lib.hid ((R1.out.below hb (Nat.le_refl _)).more hb.size)
    have nG0 := Lib.hid (oldG G0.out hb (Nat.le_refl _))
    have nG1 := Lib.hid (oldG G1.out hb (Nat.le_refl _))
    clear hb
    clear HB R0 R1 G0 G1
    have HB := nHB
    have R0 := nR0
    have R1 := nR1
    have G0 := nG0
    have G1 := nG1
    clear nHB nR0 nR1 nG0 nG1
    go_wp2_with fail
    go_ret
    exact ⟨rfl, HB.out⟩
  rw [hF2] at CF2
  have hok := few_ok hF hz
  have hok2 := few_ok hF2 hz2
  have C1 := Lib.hid (fun w (hB : Below W.heap.size W w) (h : RdF w w.heap.size A l) => iWrite_any t A l c w ht hok hc hcm h (hT.below hB))
  have C2 := Lib.hid (fun w (hB : Below W.heap.size W w) (h : RdF w w.heap.size A l) => refWriteM_any t A l c w ht (by have := hok.len; omega) (fun x hx => by have := hok.small x hx; omega) hc hcm h)
  have CP1 := Lib.hid (fun w (hB : Below W.heap.size W w) => iReply_any mti hm w (hT.below hB))
  have CP2 := Lib.hid (fun w (hB : Below W.heap.size W w) => refReply_any mti hm w)
  have CR1 := Lib.hid (fun w (hB : Below W.heap.size W w) (h : RdF w w.heap.size A l) => iRight_any t A l c w ht hok hc hcm h (hT.below hB))
  have CR2 := Lib.hid (fun w (hB : Below W.heap.size W w) (h : RdF w w.heap.size A l) => refRightM_any t A l c w ht (by have := hok.len; omega) (fun x hx => by have := hok.small x hx; omega) hc hcm h)
  have CS1 := Lib.hid (fun w (hB : Below W.heap.size W w) (h : RdF w w.heap.size A l) (h2 : RdF w w.heap.size B k) => iSame_any t u A B l k c d w ht ht2 hok hok2 hc hcm h hc2 hcm2 h2 (hT.below hB))
  have CS2 := Lib.hid (fun w (hB : Below W.heap.size W w) (h : RdF w w.heap.size A l) (h2 : RdF w w.heap.size B k) => refSameM_any t u A B l k c d w hc hcm h h2)
  have CT1 := Lib.hid (fun w (hB : Below W.heap.size W w) => iType_any mti hm w (hT.below hB))
  have CT2 := Lib.hid (fun w (hB : Below W.heap.size W w) => refType_any mti hm w)
  have CK1 := Lib.hid (fun w (hB : Below W.heap.size W w) => iClass_any mti hm w (hT.below hB))
  have CK2 := Lib.hid (fun w (hB : Below W.heap.size W w) => refClass_any mti hm w)
  have SB := Lib.hid (fun (A1 A2 : Option Addr) (c1 c2 : Nat) w (hB : Below W.heap.size W w) (h1 : Rd w w.heap.size A1 (isoW t l)) (h2 : Rd w w.heap.size A2 (isoW t l)) => same_any A1 A2 (isoW t l) (isoW t l) c1 c2 _ _ w h1 h2)
  simp only [decide_true] at SB
  generalize decide (RightM t l) = FR at *
  generalize decide (t = u ∧ l = k) = FS at *
  generalize isoW t l = X at *
  generalize isoE t l = E at *
  generalize replyI mti = PI at *
  generalize replyY mti = PY at *
  generalize typeF mti = TF at *
  generalize classF mti = KF at *
  clear hF hF2 hok hok2 hr hr2 hc hc2 hz hz2 hcm hcm2
  generalize X.length = nx at *
  obtain ⟨n, hn⟩ : ∃ n, n = l.length := ⟨_, rfl⟩
  obtain ⟨m, hm'⟩ : ∃ n, n = k.length := ⟨_, rfl⟩
  rw [← hn] at CF C1 C2 CR1 CR2 CS1 CS2
  rw [← hm'] at CF2 CS1 CS2
  rw [← hn, ← hm']
  clear hn hm'
  have eE : ((E : Int) == (E : Int)) = true := by simp
  have eI : ((PI : Int) == (PI : Int)) = true := by simp
  have eK : ((KF : Int) == (KF : Int)) = true := by simp
  have eR : (FR == FR) = true := by simp
  have eS : (FS == FS) = true := by simp
  have eT : (TF == TF) = true := by simp
  have eY : (PY == PY) = true := by simp
  obtain ⟨V0, hV, hb, hg, hg2⟩ := box2 W #[.int .i64 t, .slice A n c] #[.int .i64 u, .slice B m d] 24 24
  have HB := Lib.hid hb
  have G0 := Lib.hid hg
  have G1 := Lib.hid hg2
  have nR0 := Lib.hid ((R0.out.below hb (Nat.le_refl _)).more hb.size)
  have nR1 := Lib.hid ((R1.out.below hb (Nat.le_refl _)).more hb.size)
  have HV := Lib.hid hV
  clear hb hg hg2 hV
  clear R0 R1
  have R0 := nR0
  have R1 := nR1
  clear nR0 nR1
  go_enter Tryd.func3, Tryd.ntmps3
  go_wp2_with fail
  rw [← HV.out]
  clear HV
  refine (shown7_any _ (HT.out.below HB.out)).mono ?_
  rintro e w1 ⟨rfl, hb⟩
  have nHB := Lib.hid (belG HB.out hb HB.out.size)
  have nR0 := Lib.hid ((R0.out.below hb (Nat.le_refl _)).more hb.size)
  have nR1 := Lib.hid ((R1.out.below hb (Nat.le_refl _)).more hb.size)
  have nG0 := Lib.hid (oldG G0.out hb (Nat.le_refl _))
  have nG1 := Lib.hid (oldG G1.out hb (Nat.le_refl _))
  clear hb
  clear HB R0 R1 G0 G1
  have HB := nHB
  have R0 := nR0
  have R1 := nR1
  have G0 := nG0
  have G1 := nG1
  clear nHB nR0 nR1 nG0 nG1
  obtain ⟨g0x, g0y⟩ := cG2 G0.out
  go_wp2_with fail
  clear g0x g0y
  refine (CF.out _ HB.out R0.out).mono ?_
  rintro e w2 ⟨rfl, hb⟩
  have nHB := Lib.hid (belG HB.out hb HB.out.size)
  have nR0 := Lib.hid ((R0.out.below hb (Nat.le_refl _)).more hb.size)
  have nR1 := Lib.hid ((R1.out.below hb (Nat.le_refl _)).more hb.size)
  have nG0 := Lib.hid (oldG G0.out hb (Nat.le_refl _))
  have nG1 := Lib.hid (oldG G1.out hb (Nat.le_refl _))
  clear hb
  clear HB R0 R1 G0 G1
  have HB := nHB
  have R0 := nR0
  have R1 := nR1
  have G0 := nG0
  have G1 := nG1
  clear nHB nR0 nR1 nG0 nG1
  obtain ⟨g1x, g1y⟩ := cG2 G1.out
  go_wp2_with fail
  clear g1x g1y
  refine (CF2.out _ HB.out R1.out).mono ?_
  rintro e w3 ⟨rfl, hb⟩
  have nHB := Lib.hid (belG HB.out hb HB.out.size)
  have nR0 := Lib.hid ((R0.out.below hb (Nat.le_refl _)).more hb.size)
  have nR1 := Lib.hid ((R1.out.below hb (Nat.le_refl _)).more hb.size)
  have nG0 := Lib.hid (oldG G0.out hb (Nat.le_refl _))
  have nG1 := Lib.hid (oldG G1.out hb (Nat.le_refl _))
  clear hb
  clear HB R0 R1 G0 G1
  have HB := nHB
  have R0 := nR0
  have R1 := nR1
  have G0 := nG0
  have G1 := nG1
  clear nHB nR0 nR1 nG0 nG1
  obtain ⟨g0x, g0y⟩ := cG2 G0.out
  go_wp2_with fail
  clear g0x g0y
  refine (C1.out _ HB.out R0.out).mono ?_
  rintro e w4 ⟨⟨A1, c1, rfl, -, -, h1⟩, hb⟩
  have nHB := Lib.hid (belG HB.out hb HB.out.size)
  have nR0 := Lib.hid ((R0.out.below hb (Nat.le_refl _)).more hb.size)
  have nR1 := Lib.hid ((R1.out.below hb (Nat.le_refl _)).more hb.size)
  have nG0 := Lib.hid (oldG G0.out hb (Nat.le_refl _))
  have nG1 := Lib.hid (oldG G1.out hb (Nat.le_refl _))
  clear hb
  clear HB R0 R1 G0 G1
  have HB := nHB
  have R0 := nR0
  have R1 := nR1
  have G0 := nG0
  have G1 := nG1
  clear nHB nR0 nR1 nG0 nG1
  have R3 := Lib.hid h1
  clear h1
  obtain ⟨g0x, g0y⟩ := cG2 G0.out
  go_wp2_with fail
  clear g0x g0y
  refine (C2.out _ HB.out R0.out).mono ?_
  rintro e w5 ⟨⟨A2, c2, rfl, -, -, h2⟩, hb⟩
  have nHB := Lib.hid (belG HB.out hb HB.out.size)
  have nR0 := Lib.hid ((R0.out.below hb (Nat.le_refl _)).more hb.size)
  have nR1 := Lib.hid ((R1.out.below hb (Nat.le_refl _)).more hb.size)
  have nR3 := Lib.hid ((R3.out.below hb (Nat.le_refl _)).more hb.size)
  have nG0 := Lib.hid (oldG G0.out hb (Nat.le_refl _))
  have nG1 := Lib.hid (oldG G1.out hb (Nat.le_refl _))
  clear hb
  clear HB R0 R1 R3 G0 G1
  have HB := nHB
  have R0 := nR0
  have R1 := nR1
  have R3 := nR3
  have G0 := nG0
  have G1 := nG1
  clear nHB nR0 nR1 nR3 nG0 nG1
  have R4 := Lib.hid h2
  clear h2
  go_wp2_with fail
  refine (CP1.out _ HB.out).mono ?_
  rintro e w6 ⟨rfl, hb⟩
  have nHB := Lib.hid (belG HB.out hb HB.out.size)
  have nR0 := Lib.hid ((R0.out.below hb (Nat.le_refl _)).more hb.size)
  have nR1 := Lib.hid ((R1.out.below hb (Nat.le_refl _)).more hb.size)
  have nR3 := Lib.hid ((R3.out.below hb (Nat.le_refl _)).more hb.size)
  have nR4 := Lib.hid ((R4.out.below hb (Nat.le_refl _)).more hb.size)
  have nG0 := Lib.hid (oldG G0.out hb (Nat.le_refl _))
  have nG1 := Lib.hid (oldG G1.out hb (Nat.le_refl _))
  clear hb
  clear HB R0 R1 R3 R4 G0 G1
  have HB := nHB
  have R0 := nR0
  have R1 := nR1
  have R3 := nR3
  have R4 := nR4
  have G0 := nG0
  have G1 := nG1
  clear nHB nR0 nR1 nR3 nR4 nG0 nG1
  go_wp2_with fail
  refine (CP2.out _ HB.out).mono ?_
  rintro e w7 ⟨rfl, rfl⟩
  have BB0 := Lib.hid ((Below.refl w6.heap.size w6).drew)
  have F0 := Lib.hid (fun w (h : Below w6.heap.size w6 w) => belG HB.out h HB.out.size)
  have FR0 := Lib.hid (fun w (h : Below w6.heap.size w6 w) => (R0.out.below h (Nat.le_refl _)).more h.size)
  have FR1 := Lib.hid (fun w (h : Below w6.heap.size w6 w) => (R1.out.below h (Nat.le_refl _)).more h.size)
  have FR3 := Lib.hid (fun w (h : Below w6.heap.size w6 w) => (R3.out.below h (Nat.le_refl _)).more h.size)
  have FR4 := Lib.hid (fun w (h : Below w6.heap.size w6 w) => (R4.out.below h (Nat.le_refl _)).more h.size)
  have KEEP := Lib.hid (fun w' (h : Below w6.heap.size w6 w') => (show Below w6.heap.size w6 w' ∧ w'.cell? ⟨W.heap.size, 0, none⟩ = some (.int .i64 t) ∧ w'.cell? ⟨W.heap.size, 1, none⟩ = some (.slice A n c) ∧ w'.cell? ⟨W.heap.size + 1, 0, none⟩ = some (.int .i64 u) ∧ w'.cell? ⟨W.heap.size + 1, 1, none⟩ = some (.slice B m d) from by
    obtain ⟨z0, u0⟩ := cG2 (oldG G0.out h (Nat.le_refl _))
    obtain ⟨z1, u1⟩ := cG2 (oldG G1.out h (Nat.le_refl _))
    exact ⟨h, z0, u0, z1, u1⟩))
  go_wp2_with fail
  go_region_held3 (fun w' => Below w6.heap.size w6 w' ∧ w'.cell? ⟨W.heap.size, 0, none⟩ = some (.int .i64 t) ∧ w'.cell? ⟨W.heap.size, 1, none⟩ = some (.slice A n c) ∧ w'.cell? ⟨W.heap.size + 1, 0, none⟩ = some (.int .i64 u) ∧ w'.cell? ⟨W.heap.size + 1, 1, none⟩ = some (.slice B m d))
    (first | with_reducible exact KEEP.out _ BB0.out | with_reducible exact KEEP.out _ BB2.out | with_reducible exact KEEP.out _ BB3.out | with_reducible exact KEEP.out _ BB4.out | with_reducible exact KEEP.out _ BB5.out | with_reducible exact KEEP.out _ BB6.out | with_reducible exact KEEP.out _ BB8.out)
    (first
    | (go_at_call 17; (with_reducible refine (SB.out A1 A2 c1 c2 _ (F0.out _ BB0.out) (FR3.out _ BB0.out) (FR4.out _ BB0.out)).mono ?_); rintro e wz0 ⟨rfl, rfl⟩)
    | (go_at_call 18; (with_reducible refine (CR1.out _ (F0.out _ BB0.out) (FR0.out _ BB0.out)).mono ?_); rintro e wz1 ⟨rfl, hb⟩; have BB2 := Lib.hid (belG BB0.out hb BB0.out.size); clear hb)
    | (go_at_call 19; (with_reducible refine (CR2.out _ (F0.out _ BB2.out) (FR0.out _ BB2.out)).mono ?_); rintro e wz2 ⟨rfl, hb⟩; have BB3 := Lib.hid (belG BB2.out hb BB2.out.size); clear hb)
    | (go_at_call 20; (with_reducible refine (CS1.out _ (F0.out _ BB3.out) (FR0.out _ BB3.out) (FR1.out _ BB3.out)).mono ?_); rintro e wz3 ⟨rfl, hb⟩; have BB4 := Lib.hid (belG BB3.out hb BB3.out.size); clear hb)
    | (go_at_call 21; (with_reducible refine (CS2.out _ (F0.out _ BB4.out) (FR0.out _ BB4.out) (FR1.out _ BB4.out)).mono ?_); rintro e wz4 ⟨rfl, hb⟩; have BB5 := Lib.hid (belG BB4.out hb BB4.out.size); clear hb)
    | (go_at_call 22; (with_reducible refine (CT1.out _ (F0.out _ BB5.out)).mono ?_); rintro e wz5 ⟨rfl, hb⟩; have BB6 := Lib.hid (belG BB5.out hb BB5.out.size); clear hb)
    | (go_at_call 23; (with_reducible refine (CT2.out _ (F0.out _ BB6.out)).mono ?_); rintro e wz6 ⟨rfl, rfl⟩)
    | (go_at_call 24; (with_reducible refine (CK1.out _ (F0.out _ BB6.out)).mono ?_); rintro e wz7 ⟨rfl, hb⟩; have BB8 := Lib.hid (belG BB6.out hb BB6.out.size); clear hb)
    | (go_at_call 25; (with_reducible refine (CK2.out _ (F0.out _ BB8.out)).mono ?_); rintro e wz8 ⟨rfl, rfl⟩))
  all_goals
    go_wp2_with fail
    go_ret
    exact ⟨by first | rfl | simp, F0.out _ BB8.out⟩
end Go.Proofs.YtpfjecjfooefoaaDoor
