
/- shown (prov): the document's example, and a forgery. -/
import Derived.Test.YtcfncbbdlbdbnaaDoorPrJ
import Derived.Test.YtcfncbbdlbdbnaaDoorPrK
namespace Go.Proofs.YtcfncbbdlbdbnaaDoor
open Go.RowKit

abbrev e12 : Pr := ([1], [2])
abbrev e13 : Pr := ([1], [3])
theorem cut_apart : decide (cutF [1] [2] = cutF [1] [3]) = false := by kernel_rfl
theorem tab12 : tabF [] [1] [2] = [e12] := by unfold tabF; rw [if_neg (by simp)]; rfl
theorem tab13 : tabF [e12] [1] [3] = [e12, e13] := by unfold tabF; rw [if_neg (by simp)]; rfl
/-- two bytes, each in a block of its own -/
theorem bytes2 (W : World) (x y : UInt8) (a b : Int) (ha : a = (x.toNat : Int)) (hb : b = (y.toNat : Int)) : Rd ((W.alloc (.cells #[.int .u8 a] 5)).alloc (.cells #[.int .u8 b] 5)) ((W.alloc (.cells #[.int .u8 a] 5)).alloc (.cells #[.int .u8 b] 5)).heap.size (some ⟨W.heap.size, 0, none⟩) [x] ∧ Rd ((W.alloc (.cells #[.int .u8 a] 5)).alloc (.cells #[.int .u8 b] 5)) ((W.alloc (.cells #[.int .u8 a] 5)).alloc (.cells #[.int .u8 b] 5)).heap.size (some ⟨W.heap.size + 1, 0, none⟩) [y]
    ∧ Below W.heap.size W ((W.alloc (.cells #[.int .u8 a] 5)).alloc (.cells #[.int .u8 b] 5)) := by
  subst ha hb
  obtain ⟨q1, q2, q3, q4⟩ := alloc2 W (.cells #[.int .u8 (x.toNat : Int)] 5) (.cells #[.int .u8 (y.toNat : Int)] 5)
  exact ⟨Rd.block (l := [x]) q1, Rd.block (l := [y]) q2, q4⟩

set_option maxRecDepth 100000 in
set_option maxHeartbeats 8000000 in
theorem shown4_any (w : World) (hk : Ks w) : Calls Tryd.prog 9 #[] w fun e w' => e = .returned (.bool true) ∧ Below w.heap.size w w' := by
  have hf3 := fold3
  have KB := Lib.hid (fun w' (h : Below w.heap.size w w') => Ks.call hk h)
  have CT1 := Lib.hid (fun g g' W h1 h2 (h3 : Ks W) => show Calls Tryd.prog 11 #[.agg #[.bool true, .slice none 0 0, .bool false], .slice (some ⟨g, 0, none⟩) 1 1, .slice (some ⟨g', 0, none⟩) 1 1] W fun e w' => AnsPT w' e true [e12] false (cutF [1] [2]) ∧ Below W.heap.size W w' from by
    have h := ptag_any true false none [] 0 (some ⟨g, 0, none⟩) (some ⟨g', 0, none⟩) [1] [2] 1 1 W (by simp) (by omega) (by simp) (by simp) (by simp) (by simp) (by omega) (by simp) (by omega) Tab.nil h1 h2 h3
    rw [tab12] at h
    exact h)
  have CC1 := Lib.hid (fun A c T tc g g' W (h0 : Tab W W.heap.size A [e12]) h1 h2 (h4 : Rd W W.heap.size T (cutF [1] [2])) (h3 : Ks W) => show Calls Tryd.prog 13 #[.agg #[.bool true, .slice A 1 c, .bool false], .slice (some ⟨g, 0, none⟩) 1 1, .slice (some ⟨g', 0, none⟩) 1 1, .slice T 16 tc] W fun e w' => e = .returned (.tuple #[.agg #[.bool true, .slice A 1 c, .bool false], .bool true]) ∧ Below W.heap.size W w' from by
    have h := pcheck_any true false A [e12] c (some ⟨g, 0, none⟩) (some ⟨g', 0, none⟩) T [1] [2] (cutF [1] [2]) 1 1 tc W (by simp) (by simp) (by simp) (by rw [cutF_length]; omega) (by simp) (by omega) (by simp) (by omega) h0 h1 h2 h4 h3
    rw [cutF_length, decide_eq_true rfl, decide_eq_true (show (([1], [2]) : Pr) ∈ [e12] by simp)] at h
    exact h)
  have CC2 := Lib.hid (fun A c T tc g g' W (h0 : Tab W W.heap.size A [e12]) h1 h2 (h4 : Rd W W.heap.size T (cutF [1] [2])) (h3 : Ks W) => show Calls Tryd.prog 13 #[.agg #[.bool true, .slice A 1 c, .bool false], .slice (some ⟨g, 0, none⟩) 1 1, .slice (some ⟨g', 0, none⟩) 1 1, .slice T 16 tc] W fun e w' => e = .returned (.tuple #[.agg #[.bool true, .slice A 1 c, .bool false], .bool false]) ∧ Below W.heap.size W w' from by
    have h := pcheck_any true false A [e12] c (some ⟨g, 0, none⟩) (some ⟨g', 0, none⟩) T [1] [3] (cutF [1] [2]) 1 1 tc W (by simp) (by simp) (by simp) (by rw [cutF_length]; omega) (by simp) (by omega) (by simp) (by omega) h0 h1 h2 h4 h3
    rw [cutF_length, cut_apart] at h
    exact h)
  have CT3 := Lib.hid (fun A c g g' W (hc : 1 ≤ c) (hm : c ≤ 9223372036854775807) (h0 : Tab W W.heap.size A [e12]) h1 h2 (h3 : Ks W) => show Calls Tryd.prog 11 #[.agg #[.bool true, .slice A 1 c, .bool false], .slice (some ⟨g, 0, none⟩) 1 1, .slice (some ⟨g', 0, none⟩) 1 1] W fun e w' => AnsPT w' e true [e12, e13] false (cutF [1] [3]) ∧ Below W.heap.size W w' from by
    have h := ptag_any true false A [e12] c (some ⟨g, 0, none⟩) (some ⟨g', 0, none⟩) [1] [3] 1 1 W hc hm (by simp) (by simp) (by simp) (by simp) (by omega) (by simp) (by omega) h0 h1 h2 h3
    rw [tab13] at h
    exact h)
  have CC4 := Lib.hid (fun A c T tc g g' W (h0 : Tab W W.heap.size A [e12]) h1 h2 (h4 : Rd W W.heap.size T (cutF [1] [3])) (h3 : Ks W) => show Calls Tryd.prog 13 #[.agg #[.bool true, .slice A 1 c, .bool false], .slice (some ⟨g, 0, none⟩) 1 1, .slice (some ⟨g', 0, none⟩) 1 1, .slice T 16 tc] W fun e w' => e = .returned (.tuple #[.agg #[.bool true, .slice A 1 c, .bool true], .bool false]) ∧ Below W.heap.size W w' from by
    have h := pcheck_any true false A [e12] c (some ⟨g, 0, none⟩) (some ⟨g', 0, none⟩) T [1] [3] (cutF [1] [3]) 1 1 tc W (by simp) (by simp) (by simp) (by rw [cutF_length]; omega) (by simp) (by omega) (by simp) (by omega) h0 h1 h2 h4 h3
    rw [cutF_length, decide_eq_true rfl, decide_eq_false (show ¬ (([1], [3]) : Pr) ∈ [e12] by simp)] at h
    exact h)
  have CC5 := Lib.hid (fun T tc g g' W h1 h2 (h4 : Rd W W.heap.size T (cutF [1] [3])) (h3 : Ks W) => show Calls Tryd.prog 13 #[.agg #[.bool false, .slice none 0 0, .bool false], .slice (some ⟨g, 0, none⟩) 1 1, .slice (some ⟨g', 0, none⟩) 1 1, .slice T 16 tc] W fun e w' => e = .returned (.tuple #[.agg #[.bool false, .slice none 0 0, .bool true], .bool true]) ∧ Below W.heap.size W w' from by
    have h := pcheck_any false false none [] 0 (some ⟨g, 0, none⟩) (some ⟨g', 0, none⟩) T [1] [3] (cutF [1] [3]) 1 1 tc W (by simp) (by simp) (by simp) (by rw [cutF_length]; omega) (by simp) (by omega) (by simp) (by omega) Tab.nil h1 h2 h4 h3
    rw [cutF_length, decide_eq_true rfl, decide_eq_false (show ¬ (([1], [3]) : Pr) ∈ [] by simp)] at h
    exact h)
  have CH1 := Lib.hid (fun A c g g' W (h0 : Tab W W.heap.size A [e12]) h1 h2 => show Calls Tryd.prog 17 #[.agg #[.bool true, .slice A 1 c, .bool false], .slice (some ⟨g, 0, none⟩) 1 1, .slice (some ⟨g', 0, none⟩) 1 1] W fun e w' => e = .returned (.bool true) ∧ Below W.heap.size W w' from by
    have h := had_any true false A [e12] c (some ⟨g, 0, none⟩) (some ⟨g', 0, none⟩) [1] [2] 1 1 W (by simp) (by simp) (by omega) (by simp) (by omega) h0 h1 h2
    rw [decide_eq_true (show (([1], [2]) : Pr) ∈ [e12] by simp)] at h
    exact h)
  have CH2 := Lib.hid (fun A c g g' W (h0 : Tab W W.heap.size A [e12]) h1 h2 => show Calls Tryd.prog 17 #[.agg #[.bool true, .slice A 1 c, .bool false], .slice (some ⟨g, 0, none⟩) 1 1, .slice (some ⟨g', 0, none⟩) 1 1] W fun e w' => e = .returned (.bool false) ∧ Below W.heap.size W w' from by
    have h := had_any true false A [e12] c (some ⟨g, 0, none⟩) (some ⟨g', 0, none⟩) [2] [2] 1 1 W (by simp) (by simp) (by omega) (by simp) (by omega) h0 h1 h2
    rw [decide_eq_false (show ¬ (([2], [2]) : Pr) ∈ [e12] by simp)] at h
    exact h)
  have CS1 := Lib.hid (fun A c f W (h0 : Tab W W.heap.size A [e12]) => show Calls Tryd.prog 19 #[.agg #[.bool true, .slice A 1 c, .bool false], .agg #[.bool true, .slice A 1 c, .bool f]] W fun e w' => e = .returned (.bool (!f)) ∧ Below W.heap.size W w' from by
    have h := psame_any true false true f A A [e12] [e12] c c W (by simp) (by simp) h0 h0
    rw [show (true == true && false == f && decide ([e12] = [e12])) = !f by cases f <;> simp] at h
    exact h)
  generalize cutF [1] [2] = U1 at *
  generalize cutF [1] [3] = U3 at *
  go_enter Tryd.func9, Tryd.ntmps9
  clear hk
  go_wp2_with fail
  with_reducible refine (new4_any true w).mono ?_
  rintro e w0 ⟨rfl, hb0⟩
  have HB0 := Lib.hid hb0
  clear hb0
  obtain ⟨r1, r2, r4⟩ := bytes2 w0 1 2 1 2 rfl rfl
  have HB0' := Lib.hid (bel_call HB0.out r4 HB0.out.size)
  go_wp2_with fail
  with_reducible refine (CT1.out _ _ _ r1 r2 (KB.out _ HB0'.out)).mono ?_
  rintro e w1 ⟨⟨n1, A1, c1, T1, tc1, rfl, hn1, h11, h12, h13, h14, h15, h16⟩, hb1⟩
  obtain rfl : n1 = 1 := hn1
  have HB1 := Lib.hid (bel_call HB0'.out hb1 HB0'.out.size)
  clear r1 r2 r4 hb1 HB0 HB0' CT1
  obtain ⟨g1, hg1⟩ : ∃ g, g = w1.heap.size := ⟨_, rfl⟩
  obtain ⟨V1, hV1⟩ : ∃ V, V = w1.alloc (.cells (pcs true A1 1 c1 false) 24) := ⟨_, rfl⟩
  have p1 := heap_alloc_new w1 (.cells (pcs true A1 1 c1 false) 24)
  have b1 := (Below.refl w1.heap.size w1).alloc (Nat.le_refl _) (.cells (pcs true A1 1 c1 false) 24)
  have z1 := cells3 p1
  have t1 := (h15.below b1 (Nat.le_refl _)).more b1.size
  have u1 := (h16.below b1 (Nat.le_refl _)).more b1.size
  have bb1 := bel_call HB1.out b1 HB1.out.size
  obtain ⟨x0, x1, x2⟩ := z1
  rw [← hV1] at p1 t1 u1 bb1
  rw [← hg1] at p1
  have HV1 := Lib.hid hV1
  have HG1 := Lib.hid hg1
  have HZ1 := Lib.hid (show V1.heap.size = w1.heap.size + 1 by rw [hV1, World.size_alloc])
  have GP := Lib.hid p1
  have RT := Lib.hid (fun W (h : Below V1.heap.size V1 W) => (t1.below h (Nat.le_refl _)).more h.size)
  have RU := Lib.hid (fun W (h : Below V1.heap.size V1 W) => (u1.below h (Nat.le_refl _)).more h.size)
  have KV := Lib.hid (fun W (h : Below V1.heap.size V1 W) => KB.out W (bel_call bb1 h bb1.size))
  have BV := Lib.hid (Below.refl V1.heap.size V1)
  have BBV := Lib.hid bb1
  clear hV1 hg1 p1 b1 t1 u1 bb1 h15 h16 KB HB1
  obtain ⟨r1, r2, r4⟩ := bytes2 V1 1 2 1 2 rfl rfl
  have BV' := Lib.hid (bel_call BV.out r4 BV.out.size)
  go_wp2_with fail
  rw [← HV1.out]
  (try rw [← HZ1.out])
  (try rw [← HG1.out])
  clear HV1 x0 x1 x2
  with_reducible refine (CC1.out _ _ _ _ _ _ _ (RT.out _ BV'.out) r1 r2 (RU.out _ BV'.out) (KV.out _ BV'.out)).mono ?_
  rintro e w2 ⟨rfl, hb2⟩
  have hb := bel_call r4 hb2 r4.size
  obtain ⟨g2, hg2⟩ : ∃ g, g = w2.heap.size := ⟨_, rfl⟩
  obtain ⟨V2, hV2⟩ : ∃ V, V = w2.alloc (.cells (pcs true A1 1 c1 false) 24) := ⟨_, rfl⟩
  have p1 := heap_alloc_new w2 (.cells (pcs true A1 1 c1 false) 24)
  have b1 := bel_call hb ((Below.refl w2.heap.size w2).alloc (Nat.le_refl _) (.cells (pcs true A1 1 c1 false) 24)) hb.size
  rw [← hV2] at p1 b1
  rw [← hg2] at p1
  have nGP := Lib.hid (old_below GP.out b1 (Nat.le_refl _))
  have nBV := Lib.hid (bel_call BV.out b1 BV.out.size)
  clear GP BV BV' r1 r2 r4 hb hb2 b1
  have BV := nBV
  have GP := nGP
  have G2 := Lib.hid p1
  have HV2 := Lib.hid hV2
  have HG2 := Lib.hid hg2
  have HZ2 := Lib.hid (show V2.heap.size = w2.heap.size + 1 by rw [hV2, World.size_alloc])
  clear nBV nGP p1 hV2 hg2
  obtain ⟨x0, x1, x2⟩ := cells3 G2.out
  rw [HV2.out] at x0 x1 x2
  obtain ⟨r1, r2, r4⟩ := bytes2 V2 1 3 1 3 rfl rfl
  have BV' := Lib.hid (bel_call BV.out r4 BV.out.size)
  go_wp2_with fail
  rw [← HV2.out]
  (try rw [← HZ2.out])
  (try rw [← HG2.out])
  clear HV2 x0 x1 x2
  with_reducible refine (CC2.out _ _ _ _ _ _ _ (RT.out _ BV'.out) r1 r2 (RU.out _ BV'.out) (KV.out _ BV'.out)).mono ?_
  rintro e w3 ⟨rfl, hb3⟩
  have hb := bel_call r4 hb3 r4.size
  obtain ⟨g3, hg3⟩ : ∃ g, g = w3.heap.size := ⟨_, rfl⟩
  obtain ⟨V3, hV3⟩ : ∃ V, V = w3.alloc (.cells (pcs true A1 1 c1 false) 24) := ⟨_, rfl⟩
  have p1 := heap_alloc_new w3 (.cells (pcs true A1 1 c1 false) 24)
  have b1 := bel_call hb ((Below.refl w3.heap.size w3).alloc (Nat.le_refl _) (.cells (pcs true A1 1 c1 false) 24)) hb.size
  rw [← hV3] at p1 b1
  rw [← hg3] at p1
  have nGP := Lib.hid (old_below GP.out b1 (Nat.le_refl _))
  have nG2 := Lib.hid (old_below G2.out b1 (Nat.le_refl _))
  have nBV := Lib.hid (bel_call BV.out b1 BV.out.size)
  clear GP G2 BV BV' r1 r2 r4 hb hb3 b1
  have BV := nBV
  have GP := nGP
  have G2 := nG2
  have G3 := Lib.hid p1
  have HV3 := Lib.hid hV3
  have HG3 := Lib.hid hg3
  have HZ3 := Lib.hid (show V3.heap.size = w3.heap.size + 1 by rw [hV3, World.size_alloc])
  clear nBV nGP nG2 p1 hV3 hg3
  obtain ⟨x0, x1, x2⟩ := cells3 GP.out
  rw [HV3.out] at x0 x1 x2
  obtain ⟨r1, r2, r4⟩ := bytes2 V3 1 3 1 3 rfl rfl
  have BV' := Lib.hid (bel_call BV.out r4 BV.out.size)
  go_wp2_with fail
  rw [← HV3.out]
  (try rw [← HZ3.out])
  (try rw [← HG3.out])
  clear HV3 x0 x1 x2
  with_reducible refine (CT3.out _ _ _ _ _ h11 h12 (RT.out _ BV'.out) r1 r2 (KV.out _ BV'.out)).mono ?_
  rintro e w4 ⟨⟨n4, A4, c4, T4, tc4, rfl, hn4, h41, h42, h43, h44, h45, h46⟩, hb4⟩
  have hb := bel_call r4 hb4 r4.size
  obtain rfl : n4 = 2 := hn4
  obtain ⟨g4, hg4⟩ : ∃ g, g = w4.heap.size := ⟨_, rfl⟩
  obtain ⟨V4, hV4⟩ : ∃ V, V = w4.alloc (.cells (pcs true A4 2 c4 false) 24) := ⟨_, rfl⟩
  have p1 := heap_alloc_new w4 (.cells (pcs true A4 2 c4 false) 24)
  have b1 := bel_call hb ((Below.refl w4.heap.size w4).alloc (Nat.le_refl _) (.cells (pcs true A4 2 c4 false) 24)) hb.size
  rw [← hV4] at p1 b1
  rw [← hg4] at p1
  have nGP := Lib.hid (old_below GP.out b1 (Nat.le_refl _))
  have nG2 := Lib.hid (old_below G2.out b1 (Nat.le_refl _))
  have nG3 := Lib.hid (old_below G3.out b1 (Nat.le_refl _))
  have nBV := Lib.hid (bel_call BV.out b1 BV.out.size)
  have b4 := (Below.refl w4.heap.size w4).alloc (Nat.le_refl _) (.cells (pcs true A4 2 c4 false) 24)
  rw [← hV4] at b4
  have u4 := (h46.below b4 (Nat.le_refl _)).more b4.size
  have RO := Lib.hid (fun W (h : Below V4.heap.size V4 W) => (u4.below h (Nat.le_refl _)).more h.size)
  have BO := Lib.hid (Below.refl V4.heap.size V4)
  clear b4 u4 h45 h46
  clear GP G2 G3 BV BV' r1 r2 r4 hb hb4 b1
  have BV := nBV
  have GP := nGP
  have G2 := nG2
  have G3 := nG3
  have G4 := Lib.hid p1
  have HV4 := Lib.hid hV4
  have HG4 := Lib.hid hg4
  have HZ4 := Lib.hid (show V4.heap.size = w4.heap.size + 1 by rw [hV4, World.size_alloc])
  clear nBV nGP nG2 nG3 p1 hV4 hg4
  obtain ⟨x0, x1, x2⟩ := cells3 G3.out
  rw [HV4.out] at x0 x1 x2
  obtain ⟨r1, r2, r4⟩ := bytes2 V4 1 3 1 3 rfl rfl
  have BV' := Lib.hid (bel_call BV.out r4 BV.out.size)
  have BO' := Lib.hid (bel_call BO.out r4 BO.out.size)
  go_wp2_with fail
  rw [← HV4.out]
  (try rw [← HZ4.out])
  (try rw [← HG4.out])
  clear HV4 x0 x1 x2
  with_reducible refine (CC4.out _ _ _ _ _ _ _ (RT.out _ BV'.out) r1 r2 (RO.out _ BO'.out) (KV.out _ BV'.out)).mono ?_
  rintro e w5 ⟨rfl, hb5⟩
  have hb := bel_call r4 hb5 r4.size
  obtain ⟨g5, hg5⟩ : ∃ g, g = w5.heap.size := ⟨_, rfl⟩
  obtain ⟨V5, hV5⟩ : ∃ V, V = w5.alloc (.cells (pcs true A1 1 c1 true) 24) := ⟨_, rfl⟩
  have p1 := heap_alloc_new w5 (.cells (pcs true A1 1 c1 true) 24)
  have b1 := bel_call hb ((Below.refl w5.heap.size w5).alloc (Nat.le_refl _) (.cells (pcs true A1 1 c1 true) 24)) hb.size
  rw [← hV5] at p1 b1
  rw [← hg5] at p1
  have nGP := Lib.hid (old_below GP.out b1 (Nat.le_refl _))
  have nG2 := Lib.hid (old_below G2.out b1 (Nat.le_refl _))
  have nG3 := Lib.hid (old_below G3.out b1 (Nat.le_refl _))
  have nG4 := Lib.hid (old_below G4.out b1 (Nat.le_refl _))
  have nBV := Lib.hid (bel_call BV.out b1 BV.out.size)
  have BO2 := Lib.hid (bel_call BO.out b1 BO.out.size)
  clear BO BO'
  have BO := BO2
  clear BO2
  clear GP G2 G3 G4 BV BV' r1 r2 r4 hb hb5 b1
  have BV := nBV
  have GP := nGP
  have G2 := nG2
  have G3 := nG3
  have G4 := nG4
  have G5 := Lib.hid p1
  have HV5 := Lib.hid hV5
  have HG5 := Lib.hid hg5
  have HZ5 := Lib.hid (show V5.heap.size = w5.heap.size + 1 by rw [hV5, World.size_alloc])
  clear nBV nGP nG2 nG3 nG4 p1 hV5 hg5
  go_wp2_with fail
  rw [← HV5.out]
  (try rw [← HZ5.out])
  (try rw [← HG5.out])
  clear HV5
  with_reducible refine (new4_any false _).mono ?_
  rintro e v6 ⟨rfl, hb6⟩
  obtain ⟨r1, r2, r4⟩ := bytes2 v6 1 3 1 3 rfl rfl
  have hb7 := bel_call hb6 r4 hb6.size
  have BV' := Lib.hid (bel_call BV.out hb7 BV.out.size)
  have BO' := Lib.hid (bel_call BO.out hb7 BO.out.size)
  go_wp2_with fail
  with_reducible refine (CC5.out _ _ _ _ _ r1 r2 (RO.out _ BO'.out) (KV.out _ BV'.out)).mono ?_
  clear r4 hb6
  have r4 := hb7
  clear hb7
  rintro e w6 ⟨rfl, hb6⟩
  have hb := bel_call r4 hb6 r4.size
  obtain ⟨g6, hg6⟩ : ∃ g, g = w6.heap.size := ⟨_, rfl⟩
  obtain ⟨V6, hV6⟩ : ∃ V, V = w6.alloc (.cells (pcs false none 0 0 true) 24) := ⟨_, rfl⟩
  have p1 := heap_alloc_new w6 (.cells (pcs false none 0 0 true) 24)
  have b1 := bel_call hb ((Below.refl w6.heap.size w6).alloc (Nat.le_refl _) (.cells (pcs false none 0 0 true) 24)) hb.size
  rw [← hV6] at p1 b1
  rw [← hg6] at p1
  have nGP := Lib.hid (old_below GP.out b1 (Nat.le_refl _))
  have nG2 := Lib.hid (old_below G2.out b1 (Nat.le_refl _))
  have nG3 := Lib.hid (old_below G3.out b1 (Nat.le_refl _))
  have nG4 := Lib.hid (old_below G4.out b1 (Nat.le_refl _))
  have nG5 := Lib.hid (old_below G5.out b1 (Nat.le_refl _))
  have nBV := Lib.hid (bel_call BV.out b1 BV.out.size)
  clear BO BO' RO
  clear GP G2 G3 G4 G5 BV BV' r1 r2 r4 hb hb6 b1
  have BV := nBV
  have GP := nGP
  have G2 := nG2
  have G3 := nG3
  have G4 := nG4
  have G5 := nG5
  have G6 := Lib.hid p1
  have HV6 := Lib.hid hV6
  have HG6 := Lib.hid hg6
  have HZ6 := Lib.hid (show V6.heap.size = w6.heap.size + 1 by rw [hV6, World.size_alloc])
  clear nBV nGP nG2 nG3 nG4 nG5 p1 hV6 hg6
  obtain ⟨x0, x1, x2⟩ := cells3 GP.out
  obtain ⟨y0, y1, y2⟩ := cells3 G2.out
  obtain ⟨z0, z1, z2⟩ := cells3 G3.out
  obtain ⟨s0, s1, s2⟩ := cells3 G5.out
  obtain ⟨t0, t1, t2⟩ := cells3 G6.out
  rw [HV6.out] at x0 x1 x2 y0 y1 y2 z0 z1 z2 s0 s1 s2 t0 t1 t2
  obtain ⟨r1, r2, r4⟩ := bytes2 V6 1 2 1 2 rfl rfl
  have BV' := Lib.hid (bel_call BV.out r4 BV.out.size)
  go_wp2_with fail
  rw [← HV6.out]
  (try rw [← HZ6.out])
  (try rw [← HG6.out])
  clear HV6
  with_reducible refine (CH1.out _ _ _ _ _ (RT.out _ BV'.out) r1 r2).mono ?_
  rintro e v7 ⟨rfl, hb7⟩
  have b1 := bel_call r4 hb7 r4.size
  have nGP := Lib.hid (old_below GP.out b1 (Nat.le_refl _))
  have nG2 := Lib.hid (old_below G2.out b1 (Nat.le_refl _))
  have nG3 := Lib.hid (old_below G3.out b1 (Nat.le_refl _))
  have nG5 := Lib.hid (old_below G5.out b1 (Nat.le_refl _))
  have nG6 := Lib.hid (old_below G6.out b1 (Nat.le_refl _))
  have nBV := Lib.hid (bel_call BV.out b1 BV.out.size)
  clear BV BV' r1 r2 r4 hb7 b1 x0 x1 x2 y0 y1 y2 z0 z1 z2 s0 s1 s2 t0 t1 t2 GP G2 G3 G5 G6
  obtain ⟨x0, x1, x2⟩ := cells3 nGP.out
  obtain ⟨r1, r2, r4⟩ := bytes2 v7 2 2 2 2 rfl rfl
  have BV' := Lib.hid (bel_call nBV.out r4 nBV.out.size)
  go_wp2_with fail
  with_reducible refine (CH2.out _ _ _ _ _ (RT.out _ BV'.out) r1 r2).mono ?_
  rintro e v8 ⟨rfl, hb8⟩
  have b1 := bel_call r4 hb8 r4.size
  have GP := Lib.hid (old_below nGP.out b1 (Nat.le_refl _))
  have G2 := Lib.hid (old_below nG2.out b1 (Nat.le_refl _))
  have G5 := Lib.hid (old_below nG5.out b1 (Nat.le_refl _))
  have BV := Lib.hid (bel_call nBV.out b1 nBV.out.size)
  clear nBV BV' r1 r2 r4 hb8 b1 x0 x1 x2 nGP nG2 nG3 nG5 nG6
  obtain ⟨x0, x1, x2⟩ := cells3 GP.out
  obtain ⟨y0, y1, y2⟩ := cells3 G2.out
  go_wp2_with fail
  with_reducible refine (CS1.out _ _ false _ (RT.out _ BV.out)).mono ?_
  rintro e v9 ⟨rfl, hb9⟩
  have nGP := Lib.hid (old_below GP.out hb9 (Nat.le_refl _))
  have nG5 := Lib.hid (old_below G5.out hb9 (Nat.le_refl _))
  have nBV := Lib.hid (bel_call BV.out hb9 BV.out.size)
  clear GP G2 G5 BV hb9 x0 x1 x2 y0 y1 y2
  obtain ⟨x0, x1, x2⟩ := cells3 nGP.out
  obtain ⟨y0, y1, y2⟩ := cells3 nG5.out
  go_wp2_with fail
  with_reducible refine (CS1.out _ _ true _ (RT.out _ nBV.out)).mono ?_
  rintro e v10 ⟨rfl, hb10⟩
  have HBE := Lib.hid (BBV.out.trans ((bel_call nBV.out hb10 nBV.out.size).mono BBV.out.size))
  clear hb10
  go_wp2_with fail
  go_ret
  exact ⟨rfl, HBE.out⟩
end Go.Proofs.YtcfncbbdlbdbnaaDoor
