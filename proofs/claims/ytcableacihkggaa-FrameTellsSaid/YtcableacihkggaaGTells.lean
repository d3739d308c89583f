
/- FrameTells' walk. -/
import Derived.Test.YtcableacihkggaaJ23
namespace Go.Proofs.Ytcableacihkggaa
open Go.RowKit

set_option maxRecDepth 100000 in
set_option maxHeartbeats 4000000 in
theorem frameTells_walk (A : Option Addr) (l : List UInt8) (c : Nat) (s b : Int) (B : Option Addr) (k : List UInt8) (d : Nat) (t g : Int) (C : Option Addr) (v : List UInt8) (u : Nat) (W : World) (_hc : l.length ≤ c) (_hcm : c ≤ 9223372036854775807) (hr : Rd W W.heap.size A l) (hs : -9223372036854775808 ≤ s ∧ s ≤ 9223372036854775807) (_hb : -9223372036854775808 ≤ b ∧ b ≤ 9223372036854775807) (_hd : k.length ≤ d) (_hdm : d ≤ 9223372036854775807) (hr2 : Rd W W.heap.size B k) (_ht : -9223372036854775808 ≤ t ∧ t ≤ 9223372036854775807) (_hg : -9223372036854775808 ≤ g ∧ g ≤ 9223372036854775807) (hu : v.length ≤ u) (hum : u ≤ 9223372036854775807) (hr3 : Rd W W.heap.size C v) :
    Calls Try.prog 3 #[.agg #[.slice A l.length c, .int .i64 s, .int .i64 b], .agg #[.slice B k.length d, .int .i64 t, .int .i64 g], .slice C v.length u] W fun e W' => e = .returned (.bool true) ∧ Below W.heap.size W W' := by
  have R0 := Lib.hid hr
  have R1 := Lib.hid hr2
  have R2 := Lib.hid hr3
  by_cases h1 : 1200 < l.length
  case pos =>
    have i0 : (1200 : Int) < (l.length : Int) := by omega
    clear hr hr2 hr3 _hc _hcm _hd _hdm hu hum _hb _hg hs _ht
    generalize v.length = q at *
    generalize l.length = n at *
    generalize k.length = m at *
    obtain ⟨V0, hV, _hb, _hg, hg2⟩ := box2x W #[.slice A n c, .int .i64 s, .int .i64 b] #[.slice B m d, .int .i64 t, .int .i64 g] 24 24
    have HB := Lib.hid _hb
    have G0 := Lib.hid _hg
    have G1 := Lib.hid hg2
    have nR0 := Lib.hid ((R0.out.below _hb (Nat.le_refl _)).more _hb.size)
    have nR1 := Lib.hid ((R1.out.below _hb (Nat.le_refl _)).more _hb.size)
    have nR2 := Lib.hid ((R2.out.below _hb (Nat.le_refl _)).more _hb.size)
    have HV := Lib.hid hV
    clear _hb _hg hg2 hV
    clear R0 R1 R2
    have R0 := nR0
    have R1 := nR1
    have R2 := nR2
    clear nR0 nR1 nR2
    go_enter Try.func3, Try.ntmps3
    go_wp2_with fail
    rw [← HV.out]
    clear HV
    refine (shown8_any _).mono ?_
    rintro e w1 ⟨rfl, _hb⟩
    have nHB := Lib.hid (belG HB.out _hb HB.out.size)
    have nR0 := Lib.hid ((R0.out.below _hb (Nat.le_refl _)).more _hb.size)
    have nR1 := Lib.hid ((R1.out.below _hb (Nat.le_refl _)).more _hb.size)
    have nR2 := Lib.hid ((R2.out.below _hb (Nat.le_refl _)).more _hb.size)
    have nG0 := Lib.hid (oldG G0.out _hb (Nat.le_refl _))
    have nG1 := Lib.hid (oldG G1.out _hb (Nat.le_refl _))
    clear _hb
    clear HB R0 R1 R2 G0 G1
    have HB := nHB
    have R0 := nR0
    have R1 := nR1
    have R2 := nR2
    have G0 := nG0
    have G1 := nG1
    clear nHB nR0 nR1 nR2 nG0 nG1
    obtain ⟨g0x, g0y, g0z⟩ := cG3 G0.out
    go_wp2_with fail
    clear g0x g0y g0z
    go_ret
    exact ⟨rfl, HB.out⟩
  have i0 : ¬ (1200 : Int) < (l.length : Int) := by omega
  by_cases h2 : 1200 < k.length
  case pos =>
    have i1 : (1200 : Int) < (k.length : Int) := by omega
    clear hr hr2 hr3 _hc _hcm _hd _hdm hu hum _hb _hg hs _ht
    generalize v.length = q at *
    generalize l.length = n at *
    generalize k.length = m at *
    obtain ⟨V0, hV, _hb, _hg, hg2⟩ := box2x W #[.slice A n c, .int .i64 s, .int .i64 b] #[.slice B m d, .int .i64 t, .int .i64 g] 24 24
    have HB := Lib.hid _hb
    have G0 := Lib.hid _hg
    have G1 := Lib.hid hg2
    have nR0 := Lib.hid ((R0.out.below _hb (Nat.le_refl _)).more _hb.size)
    have nR1 := Lib.hid ((R1.out.below _hb (Nat.le_refl _)).more _hb.size)
    have nR2 := Lib.hid ((R2.out.below _hb (Nat.le_refl _)).more _hb.size)
    have HV := Lib.hid hV
    clear _hb _hg hg2 hV
    clear R0 R1 R2
    have R0 := nR0
    have R1 := nR1
    have R2 := nR2
    clear nR0 nR1 nR2
    go_enter Try.func3, Try.ntmps3
    go_wp2_with fail
    rw [← HV.out]
    clear HV
    refine (shown8_any _).mono ?_
    rintro e w1 ⟨rfl, _hb⟩
    have nHB := Lib.hid (belG HB.out _hb HB.out.size)
    have nR0 := Lib.hid ((R0.out.below _hb (Nat.le_refl _)).more _hb.size)
    have nR1 := Lib.hid ((R1.out.below _hb (Nat.le_refl _)).more _hb.size)
    have nR2 := Lib.hid ((R2.out.below _hb (Nat.le_refl _)).more _hb.size)
    have nG0 := Lib.hid (oldG G0.out _hb (Nat.le_refl _))
    have nG1 := Lib.hid (oldG G1.out _hb (Nat.le_refl _))
    clear _hb
    clear HB R0 R1 R2 G0 G1
    have HB := nHB
    have R0 := nR0
    have R1 := nR1
    have R2 := nR2
    have G0 := nG0
    have G1 := nG1
    clear nHB nR0 nR1 nR2 nG0 nG1
    obtain ⟨g0x, g0y, g0z⟩ := cG3 G0.out
    obtain ⟨g1x, g1y, g1z⟩ := cG3 G1.out
    go_wp2_with fail
    clear g0x g0y g0z g1x g1y g1z
    go_ret
    exact ⟨rfl, HB.out⟩
  have i1 : ¬ (1200 : Int) < (k.length : Int) := by omega
  by_cases h3 : 1200 < v.length
  case pos =>
    have i2 : (1200 : Int) < (v.length : Int) := by omega
    clear hr hr2 hr3 _hc _hcm _hd _hdm hu hum _hb _hg hs _ht
    generalize v.length = q at *
    generalize l.length = n at *
    generalize k.length = m at *
    obtain ⟨V0, hV, _hb, _hg, hg2⟩ := box2x W #[.slice A n c, .int .i64 s, .int .i64 b] #[.slice B m d, .int .i64 t, .int .i64 g] 24 24
    have HB := Lib.hid _hb
    have G0 := Lib.hid _hg
    have G1 := Lib.hid hg2
    have nR0 := Lib.hid ((R0.out.below _hb (Nat.le_refl _)).more _hb.size)
    have nR1 := Lib.hid ((R1.out.below _hb (Nat.le_refl _)).more _hb.size)
    have nR2 := Lib.hid ((R2.out.below _hb (Nat.le_refl _)).more _hb.size)
    have HV := Lib.hid hV
    clear _hb _hg hg2 hV
    clear R0 R1 R2
    have R0 := nR0
    have R1 := nR1
    have R2 := nR2
    clear nR0 nR1 nR2
    go_enter Try.func3, Try.ntmps3
    go_wp2_with fail
    rw [← HV.out]
    clear HV
    refine (shown8_any _).mono ?_
    rintro e w1 ⟨rfl, _hb⟩
    have nHB := Lib.hid (belG HB.out _hb HB.out.size)
    have nR0 := Lib.hid ((R0.out.below _hb (Nat.le_refl _)).more _hb.size)
    have nR1 := Lib.hid ((R1.out.below _hb (Nat.le_refl _)).more _hb.size)
    have nR2 := Lib.hid ((R2.out.below _hb (Nat.le_refl _)).more _hb.size)
    have nG0 := Lib.hid (oldG G0.out _hb (Nat.le_refl _))
    have nG1 := Lib.hid (oldG G1.out _hb (Nat.le_refl _))
    clear _hb
    clear HB R0 R1 R2 G0 G1
    have HB := nHB
    have R0 := nR0
    have R1 := nR1
    have R2 := nR2
    have G0 := nG0
    have G1 := nG1
    clear nHB nR0 nR1 nR2 nG0 nG1
    obtain ⟨g0x, g0y, g0z⟩ := cG3 G0.out
    obtain ⟨g1x, g1y, g1z⟩ := cG3 G1.out
    go_wp2_with fail
    clear g0x g0y g0z g1x g1y g1z
    go_ret
    exact ⟨rfl, HB.out⟩
  have i2 : ¬ (1200 : Int) < (v.length : Int) := by omega
  have C1 := Lib.hid (fun w (hB : Below W.heap.size W w) (h3 : Rd w w.heap.size C v) => fPack_any C v u w (by omega) hu hum h3)
  have C2 := Lib.hid (fun w (hB : Below W.heap.size W w) (h3 : Rd w w.heap.size C v) => refPack_any C v u w (by omega) h3)
  have CR1 := Lib.hid (fun w (hB : Below W.heap.size W w) (h : Rd w w.heap.size A l) => fRight_any A l c s b w (by omega) hs h)
  have CR2 := Lib.hid (fun w (hB : Below W.heap.size W w) (h : Rd w w.heap.size A l) => refRight8_any A l c s b w h)
  have CS1 := Lib.hid (fun w (hB : Below W.heap.size W w) (h : Rd w w.heap.size A l) (h2 : Rd w w.heap.size B k) => fSame_any A B l k c d s b t g w (by omega) (by omega) h h2)
  have CS2 := Lib.hid (fun w (hB : Below W.heap.size W w) (h : Rd w w.heap.size A l) (h2 : Rd w w.heap.size B k) => refSame8_any A B l k c d s b t g w h h2)
  have SB := Lib.hid (fun (A1 A2 : Option Addr) (c1 c2 : Nat) w (hB : Below W.heap.size W w) (h1 : Rd w w.heap.size A1 (packW v)) (h2 : Rd w w.heap.size A2 (packW v)) => same_any A1 A2 (packW v) (packW v) c1 c2 _ _ w h1 h2)
  simp only [decide_true] at SB
  generalize decide (RightFd ⟨l, s, b⟩) = FR at *
  generalize decide (l = k ∧ s = t ∧ b = g) = FS at *
  generalize packW v = X at *
  generalize packE v = E at *
  generalize X.length = nx at *
  clear hr hr2 hr3 _hc _hcm _hd _hdm hu hum _hb _hg hs _ht h1 h2 h3
  generalize v.length = q at *
  generalize l.length = n at *
  generalize k.length = m at *
  have eE : ((E : Int) == (E : Int)) = true := by simp
  have eR : (FR == FR) = true := by simp
  have eS : (FS == FS) = true := by simp
  obtain ⟨V0, hV, _hb, _hg, hg2⟩ := box2x W #[.slice A n c, .int .i64 s, .int .i64 b] #[.slice B m d, .int .i64 t, .int .i64 g] 24 24
  have HB := Lib.hid _hb
  have G0 := Lib.hid _hg
  have G1 := Lib.hid hg2
  have nR0 := Lib.hid ((R0.out.below _hb (Nat.le_refl _)).more _hb.size)
  have nR1 := Lib.hid ((R1.out.below _hb (Nat.le_refl _)).more _hb.size)
  have nR2 := Lib.hid ((R2.out.below _hb (Nat.le_refl _)).more _hb.size)
  have HV := Lib.hid hV
  clear _hb _hg hg2 hV
  clear R0 R1 R2
  have R0 := nR0
  have R1 := nR1
  have R2 := nR2
  clear nR0 nR1 nR2
  go_enter Try.func3, Try.ntmps3
  go_wp2_with fail
  rw [← HV.out]
  clear HV
  refine (shown8_any _).mono ?_
  rintro e w1 ⟨rfl, _hb⟩
  have nHB := Lib.hid (belG HB.out _hb HB.out.size)
  have nR0 := Lib.hid ((R0.out.below _hb (Nat.le_refl _)).more _hb.size)
  have nR1 := Lib.hid ((R1.out.below _hb (Nat.le_refl _)).more _hb.size)
  have nR2 := Lib.hid ((R2.out.below _hb (Nat.le_refl _)).more _hb.size)
  have nG0 := Lib.hid (oldG G0.out _hb (Nat.le_refl _))
  have nG1 := Lib.hid (oldG G1.out _hb (Nat.le_refl _))
  clear _hb
  clear HB R0 R1 R2 G0 G1
  have HB := nHB
  have R0 := nR0
  have R1 := nR1
  have R2 := nR2
  have G0 := nG0
  have G1 := nG1
  clear nHB nR0 nR1 nR2 nG0 nG1
  obtain ⟨g0x, g0y, g0z⟩ := cG3 G0.out
  obtain ⟨g1x, g1y, g1z⟩ := cG3 G1.out
  go_wp2_with fail
  clear g0x g0y g0z g1x g1y g1z
  refine (C1.out _ HB.out R2.out).mono ?_
  rintro e w2 ⟨⟨A1, c1, rfl, -, -, h1⟩, _hb⟩
  have nHB := Lib.hid (belG HB.out _hb HB.out.size)
  have nR0 := Lib.hid ((R0.out.below _hb (Nat.le_refl _)).more _hb.size)
  have nR1 := Lib.hid ((R1.out.below _hb (Nat.le_refl _)).more _hb.size)
  have nR2 := Lib.hid ((R2.out.below _hb (Nat.le_refl _)).more _hb.size)
  have nG0 := Lib.hid (oldG G0.out _hb (Nat.le_refl _))
  have nG1 := Lib.hid (oldG G1.out _hb (Nat.le_refl _))
  clear _hb
  clear HB R0 R1 R2 G0 G1
  have HB := nHB
  have R0 := nR0
  have R1 := nR1
  have R2 := nR2
  have G0 := nG0
  have G1 := nG1
  clear nHB nR0 nR1 nR2 nG0 nG1
  have R3 := Lib.hid h1
  clear h1
  go_wp2_with fail
  refine (C2.out _ HB.out R2.out).mono ?_
  rintro e w3 ⟨⟨A2, c2, rfl, -, -, h2⟩, _hb⟩
  have nHB := Lib.hid (belG HB.out _hb HB.out.size)
  have nR0 := Lib.hid ((R0.out.below _hb (Nat.le_refl _)).more _hb.size)
  have nR1 := Lib.hid ((R1.out.below _hb (Nat.le_refl _)).more _hb.size)
  have nR2 := Lib.hid ((R2.out.below _hb (Nat.le_refl _)).more _hb.size)
  have nR3 := Lib.hid ((R3.out.below _hb (Nat.le_refl _)).more _hb.size)
  have nG0 := Lib.hid (oldG G0.out _hb (Nat.le_refl _))
  have nG1 := Lib.hid (oldG G1.out _hb (Nat.le_refl _))
  clear _hb
  clear HB R0 R1 R2 R3 G0 G1
  have HB := nHB
  have R0 := nR0
  have R1 := nR1
  have R2 := nR2
  have R3 := nR3
  have G0 := nG0
  have G1 := nG1
  clear nHB nR0 nR1 nR2 nR3 nG0 nG1
  have R4 := Lib.hid h2
  clear h2
  have BB0 := Lib.hid ((Below.refl w3.heap.size w3).drew)
  have F0 := Lib.hid (fun w (h : Below w3.heap.size w3 w) => belG HB.out h HB.out.size)
  have FR0 := Lib.hid (fun w (h : Below w3.heap.size w3 w) => (R0.out.below h (Nat.le_refl _)).more h.size)
  have FR1 := Lib.hid (fun w (h : Below w3.heap.size w3 w) => (R1.out.below h (Nat.le_refl _)).more h.size)
  have FR2 := Lib.hid (fun w (h : Below w3.heap.size w3 w) => (R2.out.below h (Nat.le_refl _)).more h.size)
  have FR3 := Lib.hid (fun w (h : Below w3.heap.size w3 w) => (R3.out.below h (Nat.le_refl _)).more h.size)
  have FR4 := Lib.hid (fun w (h : Below w3.heap.size w3 w) => (R4.out.below h (Nat.le_refl _)).more h.size)
  have KEEP := Lib.hid (fun w' (h : Below w3.heap.size w3 w') => (show Below w3.heap.size w3 w' ∧ w'.cell? ⟨W.heap.size, 0, none⟩ = some (.slice A n c) ∧ w'.cell? ⟨W.heap.size, 1, none⟩ = some (.int .i64 s) ∧ w'.cell? ⟨W.heap.size, 2, none⟩ = some (.int .i64 b) ∧ w'.cell? ⟨W.heap.size + 1, 0, none⟩ = some (.slice B m d) ∧ w'.cell? ⟨W.heap.size + 1, 1, none⟩ = some (.int .i64 t) ∧ w'.cell? ⟨W.heap.size + 1, 2, none⟩ = some (.int .i64 g) from by
    obtain ⟨z0, u0, v0⟩ := cG3 (oldG G0.out h (Nat.le_refl _))
    obtain ⟨z1, u1, v1⟩ := cG3 (oldG G1.out h (Nat.le_refl _))
    exact ⟨h, z0, u0, v0, z1, u1, v1⟩))
  go_wp2_with fail
  go_region_held3 (fun w' => Below w3.heap.size w3 w' ∧ w'.cell? ⟨W.heap.size, 0, none⟩ = some (.slice A n c) ∧ w'.cell? ⟨W.heap.size, 1, none⟩ = some (.int .i64 s) ∧ w'.cell? ⟨W.heap.size, 2, none⟩ = some (.int .i64 b) ∧ w'.cell? ⟨W.heap.size + 1, 0, none⟩ = some (.slice B m d) ∧ w'.cell? ⟨W.heap.size + 1, 1, none⟩ = some (.int .i64 t) ∧ w'.cell? ⟨W.heap.size + 1, 2, none⟩ = some (.int .i64 g))
    (first | with_reducible exact KEEP.out _ BB0.out | with_reducible exact KEEP.out _ BB2.out | with_reducible exact KEEP.out _ BB3.out | with_reducible exact KEEP.out _ BB4.out | with_reducible exact KEEP.out _ BB5.out)
    (first
    | (go_at_call 12; (with_reducible refine (SB.out A1 A2 c1 c2 _ (F0.out _ BB0.out) (FR3.out _ BB0.out) (FR4.out _ BB0.out)).mono ?_); rintro e wz0 ⟨rfl, rfl⟩)
    | (go_at_call 13; (with_reducible refine (CR1.out _ (F0.out _ BB0.out) (FR0.out _ BB0.out)).mono ?_); rintro e wz1 ⟨rfl, _hb⟩; have BB2 := Lib.hid (belG BB0.out _hb BB0.out.size); clear _hb)
    | (go_at_call 14; (with_reducible refine (CR2.out _ (F0.out _ BB2.out) (FR0.out _ BB2.out)).mono ?_); rintro e wz2 ⟨rfl, _hb⟩; have BB3 := Lib.hid (belG BB2.out _hb BB2.out.size); clear _hb)
    | (go_at_call 15; (with_reducible refine (CS1.out _ (F0.out _ BB3.out) (FR0.out _ BB3.out) (FR1.out _ BB3.out)).mono ?_); rintro e wz3 ⟨rfl, _hb⟩; have BB4 := Lib.hid (belG BB3.out _hb BB3.out.size); clear _hb)
    | (go_at_call 16; (with_reducible refine (CS2.out _ (F0.out _ BB4.out) (FR0.out _ BB4.out) (FR1.out _ BB4.out)).mono ?_); rintro e wz4 ⟨rfl, _hb⟩; have BB5 := Lib.hid (belG BB4.out _hb BB4.out.size); clear _hb))
  all_goals
    go_wp2_with fail
    go_ret
    exact ⟨by first | rfl | simp, F0.out _ BB5.out⟩
end Go.Proofs.Ytcableacihkggaa
