
/- FieldSigns' walk. -/
import Derived.Test.YtecdmdgpmbgaaaaDoorFCuts
namespace Go.Proofs.YtecdmdgpmbgaaaaDoor
open Go.RowKit

theorem form_kind6 (no : Int) (h : fk no ≠ 0) : fk no = 1 ∨ fk no = 2 ∨ fk no = 3 ∨ fk no = 4 ∨ fk no = 5 ∨ fk no = 6 ∨ fk no = 7 := by
  rcases form_bd no with ⟨h1, h2⟩ | ⟨h1, h2, h3⟩ <;> omega
theorem Ow.set5 {w : World} {base g n cap : Nat} {l : List UInt8} (h : Ow w base (.slice (some ⟨g, 0, none⟩) n cap) l) (i : Nat) (z : UInt8) :
    Ow (w.setCell ⟨g, i, none⟩ (.int .u8 (z.toNat : Int))) base (.slice (some ⟨g, 0, none⟩) n cap) (l.set i z) := by
  refine ⟨by simp [cs], ?_⟩
  rcases h.2 with ⟨e, _⟩ | ⟨g', cap', cur, e, hb, hg, hn, hcap, hsz, htake⟩
  · cases e
  · cases e
    refine .inr ⟨g, cap, cur.setIfInBounds i (.int .u8 (z.toNat : Int)), by rw [List.length_set], hb, ?_, by rw [List.length_set]; exact hn, hcap, by rw [Array.size_setIfInBounds]; exact hsz, ?_⟩
    · exact heap_setCell_same w g i _ _ _ hg
    · rw [List.length_set, Array.toList_setIfInBounds, List.take_set, htake]
      simp [cs, List.map_set]
theorem Ow.thaw5 {w : World} {base g n cap : Nat} {l : List UInt8} (h : Ow w base (.slice (some ⟨g, 0, none⟩) n cap) l) (i : Nat) : w.frozen? ⟨g, i, none⟩ = false := by
  rcases h.2 with ⟨e, _⟩ | ⟨g', cap', cur, e, hb, hg, _⟩
  · cases e
  · cases e
    exact frozen_of_row w g i _ _ hg
theorem all_set (p : UInt8 → Bool) : ∀ (l : List UInt8) (i : Nat) (z : UInt8), i < l.length → l.all p = true → (l.set i z).all p = p z
  | [], i, z, h, _ => by simp at h
  | a :: l, 0, z, _, h2 => by
    rw [List.all_cons, Bool.and_eq_true] at h2
    rw [List.set_cons_zero, List.all_cons, h2.2, Bool.and_true]
  | a :: l, i + 1, z, h, h2 => by
    rw [List.all_cons, Bool.and_eq_true] at h2
    rw [List.set_cons_succ, List.all_cons, h2.1, Bool.true_and]
    exact all_set p l i z (by simpa using h) h2.2
theorem fits_set {no : Int} {v : List UInt8} (h : fitsF no v = true) (i : Nat) (hi : i < v.length) (z : UInt8) : fitsF no (v.set i z) = sgnF (fk no) z := by
  unfold fitsF fitF at h ⊢
  rw [Bool.and_eq_true] at h
  rw [all_set _ _ _ _ hi h.1, List.length_set, h.2, Bool.and_true]

set_option maxRecDepth 100000 in
set_option maxHeartbeats 4000000 in
theorem fieldSigns_walk (no : Int) (A : Option Addr) (v : List UInt8) (c : Nat) (t x : Int) (W : World) (_ : -9223372036854775808 ≤ no ∧ no ≤ 9223372036854775807) (hc : v.length ≤ c) (hcm : c ≤ 9223372036854775807) (hr : Rd W W.heap.size A v) (ht : 0 ≤ t ∧ t ≤ 65535) (hx : 0 ≤ x ∧ x ≤ 255) (hT : Tb W) :
    Calls Tryd.prog 9 #[.agg #[.int .i64 no, .slice A v.length c, .int .u16 t, .int .u8 x]] W fun e W' => e = .returned (.bool true) ∧ Below W.heap.size W W' := by
  have HT := Lib.hid hT
  clear hT
  have R0 := Lib.hid hr
  by_cases h500 : 500 < v.length
  · have i0 : (500 : Int) < (v.length : Int) := by omega
    clear hr
    generalize v.length = m at *
    have HB := Lib.hid (Below.refl W.heap.size W)
    go_enter Tryd.func9, Tryd.ntmps9
    obtain ⟨V0, hV0⟩ : ∃ V, V = W.alloc (.cells #[.int .i64 no, .slice A m c, .int .u16 t, .int .u8 x] 49) := ⟨_, rfl⟩
    have ha := (Below.refl W.heap.size W).alloc (Nat.le_refl _) (.cells #[.int .i64 no, .slice A m c, .int .u16 t, .int .u8 x] 49)
    have hg := heap_alloc_new W (.cells #[.int .i64 no, .slice A m c, .int .u16 t, .int .u8 x] 49)
    have nHB := Lib.hid (HB.out.alloc HB.out.size (.cells #[.int .i64 no, .slice A m c, .int .u16 t, .int .u8 x] 49))
    rw [← hV0] at ha hg nHB
    have nR0 := Lib.hid ((R0.out.below ha (Nat.le_refl _)).more ha.size)
    obtain ⟨gb, hgb⟩ : ∃ g, g = W.heap.size := ⟨_, rfl⟩
    rw [← hgb] at hg
    have HXGB := Lib.hid hgb
    have GB := Lib.hid hg
    have HV := Lib.hid hV0
    clear ha hg hV0 hgb
    clear HB R0
    have HB := nHB
    have R0 := nR0
    clear nHB nR0
    go_wp2_with fail
    rw [← HV.out]
    (try rw [← HXGB.out])
    clear HV HXGB
    clear GB
    refine (shown5_any _ (HT.out.below HB.out)).mono ?_
    rintro e w1 ⟨rfl, hb⟩
    have nHB := Lib.hid (bel5 HB.out hb HB.out.size)
    have nR0 := Lib.hid ((R0.out.below hb (Nat.le_refl _)).more hb.size)
    clear hb
    clear HB R0
    have HB := nHB
    have R0 := nR0
    clear nHB nR0
    go_wp2_with fail
    go_ret
    exact ⟨rfl, HB.out⟩
  have i0 : ¬ (500 : Int) < (v.length : Int) := by omega
  have CO1 := Lib.hid (fun w (ht : Tb w) => fOf_any no w ht)
  have CF1 := Lib.hid (fun w (h : Rd w w.heap.size A v) (ht : Tb w) => fFits_any no A v c w (by omega) h ht)
  by_cases hk : fk no = 0
  · have e0 : decide (fk no ≠ 0) = false := decide_eq_false (by omega)
    rw [e0] at CO1
    rw [fits_none hk] at CF1
    clear h500 hc hcm hr e0 hk
    generalize fk no = k at *
    generalize fl no = n at *
    generalize v.length = m at *
    have HB := Lib.hid (Below.refl W.heap.size W)
    go_enter Tryd.func9, Tryd.ntmps9
    obtain ⟨V0, hV0⟩ : ∃ V, V = W.alloc (.cells #[.int .i64 no, .slice A m c, .int .u16 t, .int .u8 x] 49) := ⟨_, rfl⟩
    have ha := (Below.refl W.heap.size W).alloc (Nat.le_refl _) (.cells #[.int .i64 no, .slice A m c, .int .u16 t, .int .u8 x] 49)
    have hg := heap_alloc_new W (.cells #[.int .i64 no, .slice A m c, .int .u16 t, .int .u8 x] 49)
    have nHB := Lib.hid (HB.out.alloc HB.out.size (.cells #[.int .i64 no, .slice A m c, .int .u16 t, .int .u8 x] 49))
    rw [← hV0] at ha hg nHB
    have nR0 := Lib.hid ((R0.out.below ha (Nat.le_refl _)).more ha.size)
    obtain ⟨gb, hgb⟩ : ∃ g, g = W.heap.size := ⟨_, rfl⟩
    rw [← hgb] at hg
    have HXGB := Lib.hid hgb
    have GB := Lib.hid hg
    have HV := Lib.hid hV0
    clear ha hg hV0 hgb
    clear HB R0
    have HB := nHB
    have R0 := nR0
    clear nHB nR0
    go_wp2_with fail
    rw [← HV.out]
    (try rw [← HXGB.out])
    clear HV HXGB
    clear GB
    refine (shown5_any _ (HT.out.below HB.out)).mono ?_
    rintro e w1 ⟨rfl, hb⟩
    have nHB := Lib.hid (bel5 HB.out hb HB.out.size)
    have nR0 := Lib.hid ((R0.out.below hb (Nat.le_refl _)).more hb.size)
    clear hb
    clear HB R0
    have HB := nHB
    have R0 := nR0
    clear nHB nR0
    go_wp2_with fail
    refine (CO1.out _ (HT.out.below HB.out)).mono ?_
    rintro e w2 ⟨rfl, hb⟩
    have nHB := Lib.hid (bel5 HB.out hb HB.out.size)
    have nR0 := Lib.hid ((R0.out.below hb (Nat.le_refl _)).more hb.size)
    clear hb
    clear HB R0
    have HB := nHB
    have R0 := nR0
    clear nHB nR0
    obtain ⟨V2, hV2⟩ : ∃ V, V = w2.alloc (.cells #[.int .i64 (k : Int), .int .i64 (n : Int)] 25) := ⟨_, rfl⟩
    have ha := (Below.refl w2.heap.size w2).alloc (Nat.le_refl _) (.cells #[.int .i64 (k : Int), .int .i64 (n : Int)] 25)
    have hg := heap_alloc_new w2 (.cells #[.int .i64 (k : Int), .int .i64 (n : Int)] 25)
    have nHB := Lib.hid (HB.out.alloc HB.out.size (.cells #[.int .i64 (k : Int), .int .i64 (n : Int)] 25))
    rw [← hV2] at ha hg nHB
    have nR0 := Lib.hid ((R0.out.below ha (Nat.le_refl _)).more ha.size)
    obtain ⟨g8, hg8⟩ : ∃ g, g = w2.heap.size := ⟨_, rfl⟩
    rw [← hg8] at hg
    have HXG8 := Lib.hid hg8
    have G8 := Lib.hid hg
    have HV := Lib.hid hV2
    clear ha hg hV2 hg8
    clear HB R0
    have HB := nHB
    have R0 := nR0
    clear nHB nR0
    go_wp2_with fail
    rw [← HV.out]
    (try rw [← HXG8.out])
    clear HV HXG8
    refine (CF1.out _ R0.out (HT.out.below HB.out)).mono ?_
    rintro e w3 ⟨rfl, hb⟩
    have nHB := Lib.hid (bel5 HB.out hb HB.out.size)
    have nR0 := Lib.hid ((R0.out.below hb (Nat.le_refl _)).more hb.size)
    have nG8 := Lib.hid (old5 G8.out hb (Nat.le_refl _))
    clear hb
    clear HB R0 G8
    have HB := nHB
    have R0 := nR0
    have G8 := nG8
    clear nHB nR0 nG8
    go_wp2_with fail
    go_ret
    exact ⟨rfl, HB.out⟩
  have e0 : decide (fk no ≠ 0) = true := decide_eq_true hk
  rw [e0] at CO1
  cases hfit : fitsF no v with
  | false =>
    rw [hfit] at CF1
    clear h500 hc hcm hr e0 hk hfit
    generalize fk no = k at *
    generalize fl no = n at *
    generalize v.length = m at *
    have HB := Lib.hid (Below.refl W.heap.size W)
    go_enter Tryd.func9, Tryd.ntmps9
    obtain ⟨V0, hV0⟩ : ∃ V, V = W.alloc (.cells #[.int .i64 no, .slice A m c, .int .u16 t, .int .u8 x] 49) := ⟨_, rfl⟩
    have ha := (Below.refl W.heap.size W).alloc (Nat.le_refl _) (.cells #[.int .i64 no, .slice A m c, .int .u16 t, .int .u8 x] 49)
    have hg := heap_alloc_new W (.cells #[.int .i64 no, .slice A m c, .int .u16 t, .int .u8 x] 49)
    have nHB := Lib.hid (HB.out.alloc HB.out.size (.cells #[.int .i64 no, .slice A m c, .int .u16 t, .int .u8 x] 49))
    rw [← hV0] at ha hg nHB
    have nR0 := Lib.hid ((R0.out.below ha (Nat.le_refl _)).more ha.size)
    obtain ⟨gb, hgb⟩ : ∃ g, g = W.heap.size := ⟨_, rfl⟩
    rw [← hgb] at hg
    have HXGB := Lib.hid hgb
    have GB := Lib.hid hg
    have HV := Lib.hid hV0
    clear ha hg hV0 hgb
    clear HB R0
    have HB := nHB
    have R0 := nR0
    clear nHB nR0
    go_wp2_with fail
    rw [← HV.out]
    (try rw [← HXGB.out])
    clear HV HXGB
    clear GB
    refine (shown5_any _ (HT.out.below HB.out)).mono ?_
    rintro e w1 ⟨rfl, hb⟩
    have nHB := Lib.hid (bel5 HB.out hb HB.out.size)
    have nR0 := Lib.hid ((R0.out.below hb (Nat.le_refl _)).more hb.size)
    clear hb
    clear HB R0
    have HB := nHB
    have R0 := nR0
    clear nHB nR0
    go_wp2_with fail
    refine (CO1.out _ (HT.out.below HB.out)).mono ?_
    rintro e w2 ⟨rfl, hb⟩
    have nHB := Lib.hid (bel5 HB.out hb HB.out.size)
    have nR0 := Lib.hid ((R0.out.below hb (Nat.le_refl _)).more hb.size)
    clear hb
    clear HB R0
    have HB := nHB
    have R0 := nR0
    clear nHB nR0
    obtain ⟨V2, hV2⟩ : ∃ V, V = w2.alloc (.cells #[.int .i64 (k : Int), .int .i64 (n : Int)] 25) := ⟨_, rfl⟩
    have ha := (Below.refl w2.heap.size w2).alloc (Nat.le_refl _) (.cells #[.int .i64 (k : Int), .int .i64 (n : Int)] 25)
    have hg := heap_alloc_new w2 (.cells #[.int .i64 (k : Int), .int .i64 (n : Int)] 25)
    have nHB := Lib.hid (HB.out.alloc HB.out.size (.cells #[.int .i64 (k : Int), .int .i64 (n : Int)] 25))
    rw [← hV2] at ha hg nHB
    have nR0 := Lib.hid ((R0.out.below ha (Nat.le_refl _)).more ha.size)
    obtain ⟨g8, hg8⟩ : ∃ g, g = w2.heap.size := ⟨_, rfl⟩
    rw [← hg8] at hg
    have HXG8 := Lib.hid hg8
    have G8 := Lib.hid hg
    have HV := Lib.hid hV2
    clear ha hg hV2 hg8
    clear HB R0
    have HB := nHB
    have R0 := nR0
    clear nHB nR0
    go_wp2_with fail
    rw [← HV.out]
    (try rw [← HXG8.out])
    clear HV HXG8
    refine (CF1.out _ R0.out (HT.out.below HB.out)).mono ?_
    rintro e w3 ⟨rfl, hb⟩
    have nHB := Lib.hid (bel5 HB.out hb HB.out.size)
    have nR0 := Lib.hid ((R0.out.below hb (Nat.le_refl _)).more hb.size)
    have nG8 := Lib.hid (old5 G8.out hb (Nat.le_refl _))
    clear hb
    clear HB R0 G8
    have HB := nHB
    have R0 := nR0
    have G8 := nG8
    clear nHB nR0 nG8
    go_wp2_with fail
    go_ret
    exact ⟨rfl, HB.out⟩
  | true =>
    rw [hfit] at CF1
    obtain ⟨z1, z2, z3, z4, z5⟩ := fits_some hfit
    obtain ⟨tn, rfl⟩ := Int.eq_ofNat_of_zero_le ht.1
    obtain ⟨y, rfl⟩ : ∃ y : UInt8, x = (y.toNat : Int) := ⟨UInt8.ofNat x.toNat, by rw [UInt8.toNat_ofNat']; omega⟩
    obtain ⟨q, hq⟩ : ∃ q, q = tn % v.length := ⟨_, rfl⟩
    have hqN : q < v.length := by rw [hq]; exact Nat.mod_lt _ (by omega)
    have i4 : (tn : Int).tmod (v.length : Int) = (q : Int) := by rw [Int.tmod_eq_emod_of_nonneg (by omega), hq]; push_cast; rfl
    have i5 : (tn : Int) % (v.length : Int) = (q : Int) := by rw [hq]; push_cast; rfl
    have CF2 := Lib.hid (fun (A5 : Option Addr) (c5 : Nat) (w : World) (h : Rd w w.heap.size A5 (v.set q y)) (ht : Tb w) => (show Calls Tryd.prog 15 #[.int .i64 no, .slice A5 v.length c5] w fun e W' => e = .returned (.bool (sgnF (fk no) y)) ∧ Below w.heap.size w W' from by
      have h9 := fFits_any no A5 (v.set q y) c5 w (by rw [List.length_set]; omega) h ht
      rw [List.length_set, fits_set hfit q hqN y] at h9
      exact h9))
    have ht2 := ht.2
    have hkind := form_kind6 no z1
    have hy := y.toNat_lt
    have HQL := Lib.hid hqN
    have HML := Lib.hid (show v.length ≤ 500 by omega)
    have HM0 := Lib.hid (show 0 < v.length by omega)
    have j1 : ¬ (v.length : Int) = 0 := by omega
    have j4 : ((v.length : Int) == 0) = false := beq_eq_false_iff_ne.2 (by omega)
    have j2 : (q : Int) < (v.length : Int) := by omega
    have j3 : (0 : Int) ≤ (q : Int) := by omega
    clear h500 hc hcm hr e0 hk hfit z1 z2 z3 z4 z5 hq ht hx
    generalize fk no = k at *
    generalize fl no = n at *
    obtain ⟨m, hm⟩ : ∃ m, m = v.length := ⟨_, rfl⟩
    have HM := Lib.hid hm
    rw [← hm] at CF1 CF2 HQL HML HM0 i0 i4 i5 j1 j2 j4 hqN ⊢
    clear hm
    have hcl : k = 1 ∨ k = 2 ∨ (3 ≤ k ∧ k ≤ 5) ∨ k = 6 ∨ k = 7 := by omega
    clear hkind
    rcases hcl with rfl | rfl | ⟨hk3, hk5⟩ | rfl | rfl
    · by_cases hc0 : y.toNat < 48
      · have c1 : ¬ (48 : Int) ≤ (y.toNat : Int) := by omega
        have HSG := Lib.hid (show sgnF 1 y = false by unfold sgnF isFig; rw [if_pos (by omega), decide_eq_false (show ¬ 48 ≤ y.toNat by omega), Bool.false_and])
        clear hy
        have HB := Lib.hid (Below.refl W.heap.size W)
        go_enter Tryd.func9, Tryd.ntmps9
        obtain ⟨V0, hV0⟩ : ∃ V, V = W.alloc (.cells #[.int .i64 no, .slice A m c, .int .u16 (tn : Int), .int .u8 (y.toNat : Int)] 49) := ⟨_, rfl⟩
        have ha := (Below.refl W.heap.size W).alloc (Nat.le_refl _) (.cells #[.int .i64 no, .slice A m c, .int .u16 (tn : Int), .int .u8 (y.toNat : Int)] 49)
        have hg := heap_alloc_new W (.cells #[.int .i64 no, .slice A m c, .int .u16 (tn : Int), .int .u8 (y.toNat : Int)] 49)
        have nHB := Lib.hid (HB.out.alloc HB.out.size (.cells #[.int .i64 no, .slice A m c, .int .u16 (tn : Int), .int .u8 (y.toNat : Int)] 49))
        rw [← hV0] at ha hg nHB
        have nR0 := Lib.hid ((R0.out.below ha (Nat.le_refl _)).more ha.size)
        obtain ⟨gb, hgb⟩ : ∃ g, g = W.heap.size := ⟨_, rfl⟩
        rw [← hgb] at hg
        have HXGB := Lib.hid hgb
        have GB := Lib.hid hg
        have HV := Lib.hid hV0
        clear ha hg hV0 hgb
        clear HB R0
        have HB := nHB
        have R0 := nR0
        clear nHB nR0
        go_wp2_with fail
        rw [← HV.out]
        (try rw [← HXGB.out])
        clear HV HXGB
        clear GB
        refine (shown5_any _ (HT.out.below HB.out)).mono ?_
        rintro e w1 ⟨rfl, hb⟩
        have nHB := Lib.hid (bel5 HB.out hb HB.out.size)
        have nR0 := Lib.hid ((R0.out.below hb (Nat.le_refl _)).more hb.size)
        clear hb
        clear HB R0
        have HB := nHB
        have R0 := nR0
        clear nHB nR0
        go_wp2_with fail
        refine (CO1.out _ (HT.out.below HB.out)).mono ?_
        rintro e w2 ⟨rfl, hb⟩
        have nHB := Lib.hid (bel5 HB.out hb HB.out.size)
        have nR0 := Lib.hid ((R0.out.below hb (Nat.le_refl _)).more hb.size)
        clear hb
        clear HB R0
        have HB := nHB
        have R0 := nR0
        clear nHB nR0
        obtain ⟨V2, hV2⟩ : ∃ V, V = w2.alloc (.cells #[.int .i64 1, .int .i64 (n : Int)] 25) := ⟨_, rfl⟩
        have ha := (Below.refl w2.heap.size w2).alloc (Nat.le_refl _) (.cells #[.int .i64 1, .int .i64 (n : Int)] 25)
        have hg := heap_alloc_new w2 (.cells #[.int .i64 1, .int .i64 (n : Int)] 25)
        have nHB := Lib.hid (HB.out.alloc HB.out.size (.cells #[.int .i64 1, .int .i64 (n : Int)] 25))
        rw [← hV2] at ha hg nHB
        have nR0 := Lib.hid ((R0.out.below ha (Nat.le_refl _)).more ha.size)
        obtain ⟨g8, hg8⟩ : ∃ g, g = w2.heap.size := ⟨_, rfl⟩
        rw [← hg8] at hg
        have HXG8 := Lib.hid hg8
        have G8 := Lib.hid hg
        have HV := Lib.hid hV2
        clear ha hg hV2 hg8
        clear HB R0
        have HB := nHB
        have R0 := nR0
        clear nHB nR0
        go_wp2_with fail
        rw [← HV.out]
        (try rw [← HXG8.out])
        clear HV HXG8
        refine (CF1.out _ R0.out (HT.out.below HB.out)).mono ?_
        rintro e w3 ⟨rfl, hb⟩
        have nHB := Lib.hid (bel5 HB.out hb HB.out.size)
        have nR0 := Lib.hid ((R0.out.below hb (Nat.le_refl _)).more hb.size)
        have nG8 := Lib.hid (old5 G8.out hb (Nat.le_refl _))
        clear hb
        clear HB R0 G8
        have HB := nHB
        have R0 := nR0
        have G8 := nG8
        clear nHB nR0 nG8
        go_wp2_with (first
          | (at_builtin; refine wpList_appS _ rfl (.tmp 53) (.tmp 54) rfl w3.heap.size _ [] v rfl (by exact Ow.made0 w3 (Nat.le_refl _)) _ _ _ _ rfl HM.out (by exact R0.out.below ((Below.refl w3.heap.size w3).alloc (Nat.le_refl _) _) (Nat.le_refl _)) (by have := HML.out; have := HM.out; show 0 + List.length v ≤ 100000000; omega) (by exact le_alloc (Nat.le_refl _) _) ?_; intro v5 w5 hown5 hgrow5; have hb5 := Ow.below (w0 := w3) (by exact Ow.made0 w3 (Nat.le_refl _)) (by exact (Below.refl w3.heap.size w3).alloc (Nat.le_refl _) _) hgrow5 (by exact le_alloc (Nat.le_refl _) _); have HB5 := Lib.hid hb5; rw [List.nil_append] at hown5; obtain ⟨g, c5, e5, hg5, -⟩ := World.ownsRow.form hown5 (by have := HM.out; have := HM0.out; omega); rw [← HM.out] at e5; subst e5; have HO5 := Lib.hid hown5; have k1 := World.ownsRow.cells hown5 (g := g) rfl q _ (cs_get v q (by have := HM.out; have := HQL.out; omega)); rw [Addr.add_lit, Nat.zero_add] at k1; have k2 := Ow.thaw5 hown5 q; have HGB := Lib.hid hg5; have hp := old5 G8.out (HB5.out.setCell (p := ⟨g, q, none⟩) hg5 (.int .u8 (y.toNat : Int))) (Nat.le_refl _); obtain ⟨x0, x1⟩ := cells2 hp; clear hown5 hgrow5 hb5 hg5 hp))
        have hs6 := HO5.out.set5 q y
        have hb6 := HB5.out.setCell (p := ⟨g, q, none⟩) HGB.out (.int .u8 (y.toNat : Int))
        have HB6 := Lib.hid (bel5 HB.out hb6 HB.out.size)
        generalize w5.setCell ⟨g, q, none⟩ (.int .u8 (y.toNat : Int)) = w6 at *
        have hr6 : Rd w6 w6.heap.size (some ⟨g, 0, none⟩) (v.set q y) := by
          obtain ⟨A', c', e', -, -, hr'⟩ := hs6.form
          injection e' with e1 e2 e3
          rw [e1]
          exact hr'
        have HR6 := Lib.hid hr6
        clear hs6 hb6 hr6 x0 x1 k1 k2 HO5 HB5
        refine (CF2.out _ _ _ HR6.out (HT.out.below HB6.out)).mono ?_
        rintro e w7 ⟨rfl, hb⟩
        have HB7 := Lib.hid (bel5 HB6.out hb HB6.out.size)
        clear hb
        go_wp2_with fail
        go_ret
        exact ⟨by rw [HSG.out]; rfl, HB7.out⟩
      by_cases hc63 : 57 < y.toNat
      · have c1 : (48 : Int) ≤ (y.toNat : Int) := by omega
        have c2 : ¬ (y.toNat : Int) ≤ 57 := by omega
        have c3 : decide ((y.toNat : Int) ≤ 57) = false := decide_eq_false c2
        have HSG := Lib.hid (show sgnF 1 y = false by unfold sgnF isFig; rw [if_pos (by omega), decide_eq_false (show ¬ y.toNat ≤ 57 by omega), Bool.and_false])
        clear hy
        have HB := Lib.hid (Below.refl W.heap.size W)
        go_enter Tryd.func9, Tryd.ntmps9
        obtain ⟨V0, hV0⟩ : ∃ V, V = W.alloc (.cells #[.int .i64 no, .slice A m c, .int .u16 (tn : Int), .int .u8 (y.toNat : Int)] 49) := ⟨_, rfl⟩
        have ha := (Below.refl W.heap.size W).alloc (Nat.le_refl _) (.cells #[.int .i64 no, .slice A m c, .int .u16 (tn : Int), .int .u8 (y.toNat : Int)] 49)
        have hg := heap_alloc_new W (.cells #[.int .i64 no, .slice A m c, .int .u16 (tn : Int), .int .u8 (y.toNat : Int)] 49)
        have nHB := Lib.hid (HB.out.alloc HB.out.size (.cells #[.int .i64 no, .slice A m c, .int .u16 (tn : Int), .int .u8 (y.toNat : Int)] 49))
        rw [← hV0] at ha hg nHB
        have nR0 := Lib.hid ((R0.out.below ha (Nat.le_refl _)).more ha.size)
        obtain ⟨gb, hgb⟩ : ∃ g, g = W.heap.size := ⟨_, rfl⟩
        rw [← hgb] at hg
        have HXGB := Lib.hid hgb
        have GB := Lib.hid hg
        have HV := Lib.hid hV0
        clear ha hg hV0 hgb
        clear HB R0
        have HB := nHB
        have R0 := nR0
        clear nHB nR0
        go_wp2_with fail
        rw [← HV.out]
        (try rw [← HXGB.out])
        clear HV HXGB
        clear GB
        refine (shown5_any _ (HT.out.below HB.out)).mono ?_
        rintro e w1 ⟨rfl, hb⟩
        have nHB := Lib.hid (bel5 HB.out hb HB.out.size)
        have nR0 := Lib.hid ((R0.out.below hb (Nat.le_refl _)).more hb.size)
        clear hb
        clear HB R0
        have HB := nHB
        have R0 := nR0
        clear nHB nR0
        go_wp2_with fail
        refine (CO1.out _ (HT.out.below HB.out)).mono ?_
        rintro e w2 ⟨rfl, hb⟩
        have nHB := Lib.hid (bel5 HB.out hb HB.out.size)
        have nR0 := Lib.hid ((R0.out.below hb (Nat.le_refl _)).more hb.size)
        clear hb
        clear HB R0
        have HB := nHB
        have R0 := nR0
        clear nHB nR0
        obtain ⟨V2, hV2⟩ : ∃ V, V = w2.alloc (.cells #[.int .i64 1, .int .i64 (n : Int)] 25) := ⟨_, rfl⟩
        have ha := (Below.refl w2.heap.size w2).alloc (Nat.le_refl _) (.cells #[.int .i64 1, .int .i64 (n : Int)] 25)
        have hg := heap_alloc_new w2 (.cells #[.int .i64 1, .int .i64 (n : Int)] 25)
        have nHB := Lib.hid (HB.out.alloc HB.out.size (.cells #[.int .i64 1, .int .i64 (n : Int)] 25))
        rw [← hV2] at ha hg nHB
        have nR0 := Lib.hid ((R0.out.below ha (Nat.le_refl _)).more ha.size)
        obtain ⟨g8, hg8⟩ : ∃ g, g = w2.heap.size := ⟨_, rfl⟩
        rw [← hg8] at hg
        have HXG8 := Lib.hid hg8
        have G8 := Lib.hid hg
        have HV := Lib.hid hV2
        clear ha hg hV2 hg8
        clear HB R0
        have HB := nHB
        have R0 := nR0
        clear nHB nR0
        go_wp2_with fail
        rw [← HV.out]
        (try rw [← HXG8.out])
        clear HV HXG8
        refine (CF1.out _ R0.out (HT.out.below HB.out)).mono ?_
        rintro e w3 ⟨rfl, hb⟩
        have nHB := Lib.hid (bel5 HB.out hb HB.out.size)
        have nR0 := Lib.hid ((R0.out.below hb (Nat.le_refl _)).more hb.size)
        have nG8 := Lib.hid (old5 G8.out hb (Nat.le_refl _))
        clear hb
        clear HB R0 G8
        have HB := nHB
        have R0 := nR0
        have G8 := nG8
        clear nHB nR0 nG8
        go_wp2_with (first
          | (at_builtin; refine wpList_appS _ rfl (.tmp 53) (.tmp 54) rfl w3.heap.size _ [] v rfl (by exact Ow.made0 w3 (Nat.le_refl _)) _ _ _ _ rfl HM.out (by exact R0.out.below ((Below.refl w3.heap.size w3).alloc (Nat.le_refl _) _) (Nat.le_refl _)) (by have := HML.out; have := HM.out; show 0 + List.length v ≤ 100000000; omega) (by exact le_alloc (Nat.le_refl _) _) ?_; intro v5 w5 hown5 hgrow5; have hb5 := Ow.below (w0 := w3) (by exact Ow.made0 w3 (Nat.le_refl _)) (by exact (Below.refl w3.heap.size w3).alloc (Nat.le_refl _) _) hgrow5 (by exact le_alloc (Nat.le_refl _) _); have HB5 := Lib.hid hb5; rw [List.nil_append] at hown5; obtain ⟨g, c5, e5, hg5, -⟩ := World.ownsRow.form hown5 (by have := HM.out; have := HM0.out; omega); rw [← HM.out] at e5; subst e5; have HO5 := Lib.hid hown5; have k1 := World.ownsRow.cells hown5 (g := g) rfl q _ (cs_get v q (by have := HM.out; have := HQL.out; omega)); rw [Addr.add_lit, Nat.zero_add] at k1; have k2 := Ow.thaw5 hown5 q; have HGB := Lib.hid hg5; have hp := old5 G8.out (HB5.out.setCell (p := ⟨g, q, none⟩) hg5 (.int .u8 (y.toNat : Int))) (Nat.le_refl _); obtain ⟨x0, x1⟩ := cells2 hp; clear hown5 hgrow5 hb5 hg5 hp))
        have hs6 := HO5.out.set5 q y
        have hb6 := HB5.out.setCell (p := ⟨g, q, none⟩) HGB.out (.int .u8 (y.toNat : Int))
        have HB6 := Lib.hid (bel5 HB.out hb6 HB.out.size)
        generalize w5.setCell ⟨g, q, none⟩ (.int .u8 (y.toNat : Int)) = w6 at *
        have hr6 : Rd w6 w6.heap.size (some ⟨g, 0, none⟩) (v.set q y) := by
          obtain ⟨A', c', e', -, -, hr'⟩ := hs6.form
          injection e' with e1 e2 e3
          rw [e1]
          exact hr'
        have HR6 := Lib.hid hr6
        clear hs6 hb6 hr6 x0 x1 k1 k2 HO5 HB5
        refine (CF2.out _ _ _ HR6.out (HT.out.below HB6.out)).mono ?_
        rintro e w7 ⟨rfl, hb⟩
        have HB7 := Lib.hid (bel5 HB6.out hb HB6.out.size)
        clear hb
        go_wp2_with fail
        go_ret
        exact ⟨by rw [HSG.out]; rfl, HB7.out⟩
      have c1 : (48 : Int) ≤ (y.toNat : Int) := by omega
      have c2 : (y.toNat : Int) ≤ 57 := by omega
      have HSG := Lib.hid (show sgnF 1 y = true by unfold sgnF; rw [if_pos (by omega)]; exact (isFig_iff y).2 (by omega))
      clear hy
      have HB := Lib.hid (Below.refl W.heap.size W)
      go_enter Tryd.func9, Tryd.ntmps9
      obtain ⟨V0, hV0⟩ : ∃ V, V = W.alloc (.cells #[.int .i64 no, .slice A m c, .int .u16 (tn : Int), .int .u8 (y.toNat : Int)] 49) := ⟨_, rfl⟩
      have ha := (Below.refl W.heap.size W).alloc (Nat.le_refl _) (.cells #[.int .i64 no, .slice A m c, .int .u16 (tn : Int), .int .u8 (y.toNat : Int)] 49)
      have hg := heap_alloc_new W (.cells #[.int .i64 no, .slice A m c, .int .u16 (tn : Int), .int .u8 (y.toNat : Int)] 49)
      have nHB := Lib.hid (HB.out.alloc HB.out.size (.cells #[.int .i64 no, .slice A m c, .int .u16 (tn : Int), .int .u8 (y.toNat : Int)] 49))
      rw [← hV0] at ha hg nHB
      have nR0 := Lib.hid ((R0.out.below ha (Nat.le_refl _)).more ha.size)
      obtain ⟨gb, hgb⟩ : ∃ g, g = W.heap.size := ⟨_, rfl⟩
      rw [← hgb] at hg
      have HXGB := Lib.hid hgb
      have GB := Lib.hid hg
      have HV := Lib.hid hV0
      clear ha hg hV0 hgb
      clear HB R0
      have HB := nHB
      have R0 := nR0
      clear nHB nR0
      go_wp2_with fail
      rw [← HV.out]
      (try rw [← HXGB.out])
      clear HV HXGB
      clear GB
      refine (shown5_any _ (HT.out.below HB.out)).mono ?_
      rintro e w1 ⟨rfl, hb⟩
      have nHB := Lib.hid (bel5 HB.out hb HB.out.size)
      have nR0 := Lib.hid ((R0.out.below hb (Nat.le_refl _)).more hb.size)
      clear hb
      clear HB R0
      have HB := nHB
      have R0 := nR0
      clear nHB nR0
      go_wp2_with fail
      refine (CO1.out _ (HT.out.below HB.out)).mono ?_
      rintro e w2 ⟨rfl, hb⟩
      have nHB := Lib.hid (bel5 HB.out hb HB.out.size)
      have nR0 := Lib.hid ((R0.out.below hb (Nat.le_refl _)).more hb.size)
      clear hb
      clear HB R0
      have HB := nHB
      have R0 := nR0
      clear nHB nR0
      obtain ⟨V2, hV2⟩ : ∃ V, V = w2.alloc (.cells #[.int .i64 1, .int .i64 (n : Int)] 25) := ⟨_, rfl⟩
      have ha := (Below.refl w2.heap.size w2).alloc (Nat.le_refl _) (.cells #[.int .i64 1, .int .i64 (n : Int)] 25)
      have hg := heap_alloc_new w2 (.cells #[.int .i64 1, .int .i64 (n : Int)] 25)
      have nHB := Lib.hid (HB.out.alloc HB.out.size (.cells #[.int .i64 1, .int .i64 (n : Int)] 25))
      rw [← hV2] at ha hg nHB
      have nR0 := Lib.hid ((R0.out.below ha (Nat.le_refl _)).more ha.size)
      obtain ⟨g8, hg8⟩ : ∃ g, g = w2.heap.size := ⟨_, rfl⟩
      rw [← hg8] at hg
      have HXG8 := Lib.hid hg8
      have G8 := Lib.hid hg
      have HV := Lib.hid hV2
      clear ha hg hV2 hg8
      clear HB R0
      have HB := nHB
      have R0 := nR0
      clear nHB nR0
      go_wp2_with fail
      rw [← HV.out]
      (try rw [← HXG8.out])
      clear HV HXG8
      refine (CF1.out _ R0.out (HT.out.below HB.out)).mono ?_
      rintro e w3 ⟨rfl, hb⟩
      have nHB := Lib.hid (bel5 HB.out hb HB.out.size)
      have nR0 := Lib.hid ((R0.out.below hb (Nat.le_refl _)).more hb.size)
      have nG8 := Lib.hid (old5 G8.out hb (Nat.le_refl _))
      clear hb
      clear HB R0 G8
      have HB := nHB
      have R0 := nR0
      have G8 := nG8
      clear nHB nR0 nG8
      go_wp2_with (first
        | (at_builtin; refine wpList_appS _ rfl (.tmp 53) (.tmp 54) rfl w3.heap.size _ [] v rfl (by exact Ow.made0 w3 (Nat.le_refl _)) _ _ _ _ rfl HM.out (by exact R0.out.below ((Below.refl w3.heap.size w3).alloc (Nat.le_refl _) _) (Nat.le_refl _)) (by have := HML.out; have := HM.out; show 0 + List.length v ≤ 100000000; omega) (by exact le_alloc (Nat.le_refl _) _) ?_; intro v5 w5 hown5 hgrow5; have hb5 := Ow.below (w0 := w3) (by exact Ow.made0 w3 (Nat.le_refl _)) (by exact (Below.refl w3.heap.size w3).alloc (Nat.le_refl _) _) hgrow5 (by exact le_alloc (Nat.le_refl _) _); have HB5 := Lib.hid hb5; rw [List.nil_append] at hown5; obtain ⟨g, c5, e5, hg5, -⟩ := World.ownsRow.form hown5 (by have := HM.out; have := HM0.out; omega); rw [← HM.out] at e5; subst e5; have HO5 := Lib.hid hown5; have k1 := World.ownsRow.cells hown5 (g := g) rfl q _ (cs_get v q (by have := HM.out; have := HQL.out; omega)); rw [Addr.add_lit, Nat.zero_add] at k1; have k2 := Ow.thaw5 hown5 q; have HGB := Lib.hid hg5; have hp := old5 G8.out (HB5.out.setCell (p := ⟨g, q, none⟩) hg5 (.int .u8 (y.toNat : Int))) (Nat.le_refl _); obtain ⟨x0, x1⟩ := cells2 hp; clear hown5 hgrow5 hb5 hg5 hp))
      have hs6 := HO5.out.set5 q y
      have hb6 := HB5.out.setCell (p := ⟨g, q, none⟩) HGB.out (.int .u8 (y.toNat : Int))
      have HB6 := Lib.hid (bel5 HB.out hb6 HB.out.size)
      generalize w5.setCell ⟨g, q, none⟩ (.int .u8 (y.toNat : Int)) = w6 at *
      have hr6 : Rd w6 w6.heap.size (some ⟨g, 0, none⟩) (v.set q y) := by
        obtain ⟨A', c', e', -, -, hr'⟩ := hs6.form
        injection e' with e1 e2 e3
        rw [e1]
        exact hr'
      have HR6 := Lib.hid hr6
      clear hs6 hb6 hr6 x0 x1 k1 k2 HO5 HB5
      refine (CF2.out _ _ _ HR6.out (HT.out.below HB6.out)).mono ?_
      rintro e w7 ⟨rfl, hb⟩
      have HB7 := Lib.hid (bel5 HB6.out hb HB6.out.size)
      clear hb
      go_wp2_with fail
      go_ret
      exact ⟨by rw [HSG.out]; rfl, HB7.out⟩
    · by_cases hc0 : y.toNat < 48
      · have c1 : ¬ (48 : Int) ≤ (y.toNat : Int) := by omega
        have HSG := Lib.hid (show sgnF 2 y = false by unfold sgnF isFig; rw [if_pos (by omega), decide_eq_false (show ¬ 48 ≤ y.toNat by omega), Bool.false_and])
        clear hy
        have HB := Lib.hid (Below.refl W.heap.size W)
        go_enter Tryd.func9, Tryd.ntmps9
        obtain ⟨V0, hV0⟩ : ∃ V, V = W.alloc (.cells #[.int .i64 no, .slice A m c, .int .u16 (tn : Int), .int .u8 (y.toNat : Int)] 49) := ⟨_, rfl⟩
        have ha := (Below.refl W.heap.size W).alloc (Nat.le_refl _) (.cells #[.int .i64 no, .slice A m c, .int .u16 (tn : Int), .int .u8 (y.toNat : Int)] 49)
        have hg := heap_alloc_new W (.cells #[.int .i64 no, .slice A m c, .int .u16 (tn : Int), .int .u8 (y.toNat : Int)] 49)
        have nHB := Lib.hid (HB.out.alloc HB.out.size (.cells #[.int .i64 no, .slice A m c, .int .u16 (tn : Int), .int .u8 (y.toNat : Int)] 49))
        rw [← hV0] at ha hg nHB
        have nR0 := Lib.hid ((R0.out.below ha (Nat.le_refl _)).more ha.size)
        obtain ⟨gb, hgb⟩ : ∃ g, g = W.heap.size := ⟨_, rfl⟩
        rw [← hgb] at hg
        have HXGB := Lib.hid hgb
        have GB := Lib.hid hg
        have HV := Lib.hid hV0
        clear ha hg hV0 hgb
        clear HB R0
        have HB := nHB
        have R0 := nR0
        clear nHB nR0
        go_wp2_with fail
        rw [← HV.out]
        (try rw [← HXGB.out])
        clear HV HXGB
        clear GB
        refine (shown5_any _ (HT.out.below HB.out)).mono ?_
        rintro e w1 ⟨rfl, hb⟩
        have nHB := Lib.hid (bel5 HB.out hb HB.out.size)
        have nR0 := Lib.hid ((R0.out.below hb (Nat.le_refl _)).more hb.size)
        clear hb
        clear HB R0
        have HB := nHB
        have R0 := nR0
        clear nHB nR0
        go_wp2_with fail
        refine (CO1.out _ (HT.out.below HB.out)).mono ?_
        rintro e w2 ⟨rfl, hb⟩
        have nHB := Lib.hid (bel5 HB.out hb HB.out.size)
        have nR0 := Lib.hid ((R0.out.below hb (Nat.le_refl _)).more hb.size)
        clear hb
        clear HB R0
        have HB := nHB
        have R0 := nR0
        clear nHB nR0
        obtain ⟨V2, hV2⟩ : ∃ V, V = w2.alloc (.cells #[.int .i64 2, .int .i64 (n : Int)] 25) := ⟨_, rfl⟩
        have ha := (Below.refl w2.heap.size w2).alloc (Nat.le_refl _) (.cells #[.int .i64 2, .int .i64 (n : Int)] 25)
        have hg := heap_alloc_new w2 (.cells #[.int .i64 2, .int .i64 (n : Int)] 25)
        have nHB := Lib.hid (HB.out.alloc HB.out.size (.cells #[.int .i64 2, .int .i64 (n : Int)] 25))
        rw [← hV2] at ha hg nHB
        have nR0 := Lib.hid ((R0.out.below ha (Nat.le_refl _)).more ha.size)
        obtain ⟨g8, hg8⟩ : ∃ g, g = w2.heap.size := ⟨_, rfl⟩
        rw [← hg8] at hg
        have HXG8 := Lib.hid hg8
        have G8 := Lib.hid hg
        have HV := Lib.hid hV2
        clear ha hg hV2 hg8
        clear HB R0
        have HB := nHB
        have R0 := nR0
        clear nHB nR0
        go_wp2_with fail
        rw [← HV.out]
        (try rw [← HXG8.out])
        clear HV HXG8
        refine (CF1.out _ R0.out (HT.out.below HB.out)).mono ?_
        rintro e w3 ⟨rfl, hb⟩
        have nHB := Lib.hid (bel5 HB.out hb HB.out.size)
        have nR0 := Lib.hid ((R0.out.below hb (Nat.le_refl _)).more hb.size)
        have nG8 := Lib.hid (old5 G8.out hb (Nat.le_refl _))
        clear hb
        clear HB R0 G8
        have HB := nHB
        have R0 := nR0
        have G8 := nG8
        clear nHB nR0 nG8
        go_wp2_with (first
          | (at_builtin; refine wpList_appS _ rfl (.tmp 53) (.tmp 54) rfl w3.heap.size _ [] v rfl (by exact Ow.made0 w3 (Nat.le_refl _)) _ _ _ _ rfl HM.out (by exact R0.out.below ((Below.refl w3.heap.size w3).alloc (Nat.le_refl _) _) (Nat.le_refl _)) (by have := HML.out; have := HM.out; show 0 + List.length v ≤ 100000000; omega) (by exact le_alloc (Nat.le_refl _) _) ?_; intro v5 w5 hown5 hgrow5; have hb5 := Ow.below (w0 := w3) (by exact Ow.made0 w3 (Nat.le_refl _)) (by exact (Below.refl w3.heap.size w3).alloc (Nat.le_refl _) _) hgrow5 (by exact le_alloc (Nat.le_refl _) _); have HB5 := Lib.hid hb5; rw [List.nil_append] at hown5; obtain ⟨g, c5, e5, hg5, -⟩ := World.ownsRow.form hown5 (by have := HM.out; have := HM0.out; omega); rw [← HM.out] at e5; subst e5; have HO5 := Lib.hid hown5; have k1 := World.ownsRow.cells hown5 (g := g) rfl q _ (cs_get v q (by have := HM.out; have := HQL.out; omega)); rw [Addr.add_lit, Nat.zero_add] at k1; have k2 := Ow.thaw5 hown5 q; have HGB := Lib.hid hg5; have hp := old5 G8.out (HB5.out.setCell (p := ⟨g, q, none⟩) hg5 (.int .u8 (y.toNat : Int))) (Nat.le_refl _); obtain ⟨x0, x1⟩ := cells2 hp; clear hown5 hgrow5 hb5 hg5 hp))
        have hs6 := HO5.out.set5 q y
        have hb6 := HB5.out.setCell (p := ⟨g, q, none⟩) HGB.out (.int .u8 (y.toNat : Int))
        have HB6 := Lib.hid (bel5 HB.out hb6 HB.out.size)
        generalize w5.setCell ⟨g, q, none⟩ (.int .u8 (y.toNat : Int)) = w6 at *
        have hr6 : Rd w6 w6.heap.size (some ⟨g, 0, none⟩) (v.set q y) := by
          obtain ⟨A', c', e', -, -, hr'⟩ := hs6.form
          injection e' with e1 e2 e3
          rw [e1]
          exact hr'
        have HR6 := Lib.hid hr6
        clear hs6 hb6 hr6 x0 x1 k1 k2 HO5 HB5
        refine (CF2.out _ _ _ HR6.out (HT.out.below HB6.out)).mono ?_
        rintro e w7 ⟨rfl, hb⟩
        have HB7 := Lib.hid (bel5 HB6.out hb HB6.out.size)
        clear hb
        go_wp2_with fail
        go_ret
        exact ⟨by rw [HSG.out]; rfl, HB7.out⟩
      by_cases hc63 : 57 < y.toNat
      · have c1 : (48 : Int) ≤ (y.toNat : Int) := by omega
        have c2 : ¬ (y.toNat : Int) ≤ 57 := by omega
        have c3 : decide ((y.toNat : Int) ≤ 57) = false := decide_eq_false c2
        have HSG := Lib.hid (show sgnF 2 y = false by unfold sgnF isFig; rw [if_pos (by omega), decide_eq_false (show ¬ y.toNat ≤ 57 by omega), Bool.and_false])
        clear hy
        have HB := Lib.hid (Below.refl W.heap.size W)
        go_enter Tryd.func9, Tryd.ntmps9
        obtain ⟨V0, hV0⟩ : ∃ V, V = W.alloc (.cells #[.int .i64 no, .slice A m c, .int .u16 (tn : Int), .int .u8 (y.toNat : Int)] 49) := ⟨_, rfl⟩
        have ha := (Below.refl W.heap.size W).alloc (Nat.le_refl _) (.cells #[.int .i64 no, .slice A m c, .int .u16 (tn : Int), .int .u8 (y.toNat : Int)] 49)
        have hg := heap_alloc_new W (.cells #[.int .i64 no, .slice A m c, .int .u16 (tn : Int), .int .u8 (y.toNat : Int)] 49)
        have nHB := Lib.hid (HB.out.alloc HB.out.size (.cells #[.int .i64 no, .slice A m c, .int .u16 (tn : Int), .int .u8 (y.toNat : Int)] 49))
        rw [← hV0] at ha hg nHB
        have nR0 := Lib.hid ((R0.out.below ha (Nat.le_refl _)).more ha.size)
        obtain ⟨gb, hgb⟩ : ∃ g, g = W.heap.size := ⟨_, rfl⟩
        rw [← hgb] at hg
        have HXGB := Lib.hid hgb
        have GB := Lib.hid hg
        have HV := Lib.hid hV0
        clear ha hg hV0 hgb
        clear HB R0
        have HB := nHB
        have R0 := nR0
        clear nHB nR0
        go_wp2_with fail
        rw [← HV.out]
        (try rw [← HXGB.out])
        clear HV HXGB
        clear GB
        refine (shown5_any _ (HT.out.below HB.out)).mono ?_
        rintro e w1 ⟨rfl, hb⟩
        have nHB := Lib.hid (bel5 HB.out hb HB.out.size)
        have nR0 := Lib.hid ((R0.out.below hb (Nat.le_refl _)).more hb.size)
        clear hb
        clear HB R0
        have HB := nHB
        have R0 := nR0
        clear nHB nR0
        go_wp2_with fail
        refine (CO1.out _ (HT.out.below HB.out)).mono ?_
        rintro e w2 ⟨rfl, hb⟩
        have nHB := Lib.hid (bel5 HB.out hb HB.out.size)
        have nR0 := Lib.hid ((R0.out.below hb (Nat.le_refl _)).more hb.size)
        clear hb
        clear HB R0
        have HB := nHB
        have R0 := nR0
        clear nHB nR0
        obtain ⟨V2, hV2⟩ : ∃ V, V = w2.alloc (.cells #[.int .i64 2, .int .i64 (n : Int)] 25) := ⟨_, rfl⟩
        have ha := (Below.refl w2.heap.size w2).alloc (Nat.le_refl _) (.cells #[.int .i64 2, .int .i64 (n : Int)] 25)
        have hg := heap_alloc_new w2 (.cells #[.int .i64 2, .int .i64 (n : Int)] 25)
        have nHB := Lib.hid (HB.out.alloc HB.out.size (.cells #[.int .i64 2, .int .i64 (n : Int)] 25))
        rw [← hV2] at ha hg nHB
        have nR0 := Lib.hid ((R0.out.below ha (Nat.le_refl _)).more ha.size)
        obtain ⟨g8, hg8⟩ : ∃ g, g = w2.heap.size := ⟨_, rfl⟩
        rw [← hg8] at hg
        have HXG8 := Lib.hid hg8
        have G8 := Lib.hid hg
        have HV := Lib.hid hV2
        clear ha hg hV2 hg8
        clear HB R0
        have HB := nHB
        have R0 := nR0
        clear nHB nR0
        go_wp2_with fail
        rw [← HV.out]
        (try rw [← HXG8.out])
        clear HV HXG8
        refine (CF1.out _ R0.out (HT.out.below HB.out)).mono ?_
        rintro e w3 ⟨rfl, hb⟩
        have nHB := Lib.hid (bel5 HB.out hb HB.out.size)
        have nR0 := Lib.hid ((R0.out.below hb (Nat.le_refl _)).more hb.size)
        have nG8 := Lib.hid (old5 G8.out hb (Nat.le_refl _))
        clear hb
        clear HB R0 G8
        have HB := nHB
        have R0 := nR0
        have G8 := nG8
        clear nHB nR0 nG8
        go_wp2_with (first
          | (at_builtin; refine wpList_appS _ rfl (.tmp 53) (.tmp 54) rfl w3.heap.size _ [] v rfl (by exact Ow.made0 w3 (Nat.le_refl _)) _ _ _ _ rfl HM.out (by exact R0.out.below ((Below.refl w3.heap.size w3).alloc (Nat.le_refl _) _) (Nat.le_refl _)) (by have := HML.out; have := HM.out; show 0 + List.length v ≤ 100000000; omega) (by exact le_alloc (Nat.le_refl _) _) ?_; intro v5 w5 hown5 hgrow5; have hb5 := Ow.below (w0 := w3) (by exact Ow.made0 w3 (Nat.le_refl _)) (by exact (Below.refl w3.heap.size w3).alloc (Nat.le_refl _) _) hgrow5 (by exact le_alloc (Nat.le_refl _) _); have HB5 := Lib.hid hb5; rw [List.nil_append] at hown5; obtain ⟨g, c5, e5, hg5, -⟩ := World.ownsRow.form hown5 (by have := HM.out; have := HM0.out; omega); rw [← HM.out] at e5; subst e5; have HO5 := Lib.hid hown5; have k1 := World.ownsRow.cells hown5 (g := g) rfl q _ (cs_get v q (by have := HM.out; have := HQL.out; omega)); rw [Addr.add_lit, Nat.zero_add] at k1; have k2 := Ow.thaw5 hown5 q; have HGB := Lib.hid hg5; have hp := old5 G8.out (HB5.out.setCell (p := ⟨g, q, none⟩) hg5 (.int .u8 (y.toNat : Int))) (Nat.le_refl _); obtain ⟨x0, x1⟩ := cells2 hp; clear hown5 hgrow5 hb5 hg5 hp))
        have hs6 := HO5.out.set5 q y
        have hb6 := HB5.out.setCell (p := ⟨g, q, none⟩) HGB.out (.int .u8 (y.toNat : Int))
        have HB6 := Lib.hid (bel5 HB.out hb6 HB.out.size)
        generalize w5.setCell ⟨g, q, none⟩ (.int .u8 (y.toNat : Int)) = w6 at *
        have hr6 : Rd w6 w6.heap.size (some ⟨g, 0, none⟩) (v.set q y) := by
          obtain ⟨A', c', e', -, -, hr'⟩ := hs6.form
          injection e' with e1 e2 e3
          rw [e1]
          exact hr'
        have HR6 := Lib.hid hr6
        clear hs6 hb6 hr6 x0 x1 k1 k2 HO5 HB5
        refine (CF2.out _ _ _ HR6.out (HT.out.below HB6.out)).mono ?_
        rintro e w7 ⟨rfl, hb⟩
        have HB7 := Lib.hid (bel5 HB6.out hb HB6.out.size)
        clear hb
        go_wp2_with fail
        go_ret
        exact ⟨by rw [HSG.out]; rfl, HB7.out⟩
      have c1 : (48 : Int) ≤ (y.toNat : Int) := by omega
      have c2 : (y.toNat : Int) ≤ 57 := by omega
      have HSG := Lib.hid (show sgnF 2 y = true by unfold sgnF; rw [if_pos (by omega)]; exact (isFig_iff y).2 (by omega))
      clear hy
      have HB := Lib.hid (Below.refl W.heap.size W)
      go_enter Tryd.func9, Tryd.ntmps9
      obtain ⟨V0, hV0⟩ : ∃ V, V = W.alloc (.cells #[.int .i64 no, .slice A m c, .int .u16 (tn : Int), .int .u8 (y.toNat : Int)] 49) := ⟨_, rfl⟩
      have ha := (Below.refl W.heap.size W).alloc (Nat.le_refl _) (.cells #[.int .i64 no, .slice A m c, .int .u16 (tn : Int), .int .u8 (y.toNat : Int)] 49)
      have hg := heap_alloc_new W (.cells #[.int .i64 no, .slice A m c, .int .u16 (tn : Int), .int .u8 (y.toNat : Int)] 49)
      have nHB := Lib.hid (HB.out.alloc HB.out.size (.cells #[.int .i64 no, .slice A m c, .int .u16 (tn : Int), .int .u8 (y.toNat : Int)] 49))
      rw [← hV0] at ha hg nHB
      have nR0 := Lib.hid ((R0.out.below ha (Nat.le_refl _)).more ha.size)
      obtain ⟨gb, hgb⟩ : ∃ g, g = W.heap.size := ⟨_, rfl⟩
      rw [← hgb] at hg
      have HXGB := Lib.hid hgb
      have GB := Lib.hid hg
      have HV := Lib.hid hV0
      clear ha hg hV0 hgb
      clear HB R0
      have HB := nHB
      have R0 := nR0
      clear nHB nR0
      go_wp2_with fail
      rw [← HV.out]
      (try rw [← HXGB.out])
      clear HV HXGB
      clear GB
      refine (shown5_any _ (HT.out.below HB.out)).mono ?_
      rintro e w1 ⟨rfl, hb⟩
      have nHB := Lib.hid (bel5 HB.out hb HB.out.size)
      have nR0 := Lib.hid ((R0.out.below hb (Nat.le_refl _)).more hb.size)
      clear hb
      clear HB R0
      have HB := nHB
      have R0 := nR0
      clear nHB nR0
      go_wp2_with fail
      refine (CO1.out _ (HT.out.below HB.out)).mono ?_
      rintro e w2 ⟨rfl, hb⟩
      have nHB := Lib.hid (bel5 HB.out hb HB.out.size)
      have nR0 := Lib.hid ((R0.out.below hb (Nat.le_refl _)).more hb.size)
      clear hb
      clear HB R0
      have HB := nHB
      have R0 := nR0
      clear nHB nR0
      obtain ⟨V2, hV2⟩ : ∃ V, V = w2.alloc (.cells #[.int .i64 2, .int .i64 (n : Int)] 25) := ⟨_, rfl⟩
      have ha := (Below.refl w2.heap.size w2).alloc (Nat.le_refl _) (.cells #[.int .i64 2, .int .i64 (n : Int)] 25)
      have hg := heap_alloc_new w2 (.cells #[.int .i64 2, .int .i64 (n : Int)] 25)
      have nHB := Lib.hid (HB.out.alloc HB.out.size (.cells #[.int .i64 2, .int .i64 (n : Int)] 25))
      rw [← hV2] at ha hg nHB
      have nR0 := Lib.hid ((R0.out.below ha (Nat.le_refl _)).more ha.size)
      obtain ⟨g8, hg8⟩ : ∃ g, g = w2.heap.size := ⟨_, rfl⟩
      rw [← hg8] at hg
      have HXG8 := Lib.hid hg8
      have G8 := Lib.hid hg
      have HV := Lib.hid hV2
      clear ha hg hV2 hg8
      clear HB R0
      have HB := nHB
      have R0 := nR0
      clear nHB nR0
      go_wp2_with fail
      rw [← HV.out]
      (try rw [← HXG8.out])
      clear HV HXG8
      refine (CF1.out _ R0.out (HT.out.below HB.out)).mono ?_
      rintro e w3 ⟨rfl, hb⟩
      have nHB := Lib.hid (bel5 HB.out hb HB.out.size)
      have nR0 := Lib.hid ((R0.out.below hb (Nat.le_refl _)).more hb.size)
      have nG8 := Lib.hid (old5 G8.out hb (Nat.le_refl _))
      clear hb
      clear HB R0 G8
      have HB := nHB
      have R0 := nR0
      have G8 := nG8
      clear nHB nR0 nG8
      go_wp2_with (first
        | (at_builtin; refine wpList_appS _ rfl (.tmp 53) (.tmp 54) rfl w3.heap.size _ [] v rfl (by exact Ow.made0 w3 (Nat.le_refl _)) _ _ _ _ rfl HM.out (by exact R0.out.below ((Below.refl w3.heap.size w3).alloc (Nat.le_refl _) _) (Nat.le_refl _)) (by have := HML.out; have := HM.out; show 0 + List.length v ≤ 100000000; omega) (by exact le_alloc (Nat.le_refl _) _) ?_; intro v5 w5 hown5 hgrow5; have hb5 := Ow.below (w0 := w3) (by exact Ow.made0 w3 (Nat.le_refl _)) (by exact (Below.refl w3.heap.size w3).alloc (Nat.le_refl _) _) hgrow5 (by exact le_alloc (Nat.le_refl _) _); have HB5 := Lib.hid hb5; rw [List.nil_append] at hown5; obtain ⟨g, c5, e5, hg5, -⟩ := World.ownsRow.form hown5 (by have := HM.out; have := HM0.out; omega); rw [← HM.out] at e5; subst e5; have HO5 := Lib.hid hown5; have k1 := World.ownsRow.cells hown5 (g := g) rfl q _ (cs_get v q (by have := HM.out; have := HQL.out; omega)); rw [Addr.add_lit, Nat.zero_add] at k1; have k2 := Ow.thaw5 hown5 q; have HGB := Lib.hid hg5; have hp := old5 G8.out (HB5.out.setCell (p := ⟨g, q, none⟩) hg5 (.int .u8 (y.toNat : Int))) (Nat.le_refl _); obtain ⟨x0, x1⟩ := cells2 hp; clear hown5 hgrow5 hb5 hg5 hp))
      have hs6 := HO5.out.set5 q y
      have hb6 := HB5.out.setCell (p := ⟨g, q, none⟩) HGB.out (.int .u8 (y.toNat : Int))
      have HB6 := Lib.hid (bel5 HB.out hb6 HB.out.size)
      generalize w5.setCell ⟨g, q, none⟩ (.int .u8 (y.toNat : Int)) = w6 at *
      have hr6 : Rd w6 w6.heap.size (some ⟨g, 0, none⟩) (v.set q y) := by
        obtain ⟨A', c', e', -, -, hr'⟩ := hs6.form
        injection e' with e1 e2 e3
        rw [e1]
        exact hr'
      have HR6 := Lib.hid hr6
      clear hs6 hb6 hr6 x0 x1 k1 k2 HO5 HB5
      refine (CF2.out _ _ _ HR6.out (HT.out.below HB6.out)).mono ?_
      rintro e w7 ⟨rfl, hb⟩
      have HB7 := Lib.hid (bel5 HB6.out hb HB6.out.size)
      clear hb
      go_wp2_with fail
      go_ret
      exact ⟨by rw [HSG.out]; rfl, HB7.out⟩
    · have a1 : ((k : Int) == 6) = false := beq_eq_false_iff_ne.2 (by omega)
      have a2 : ((k : Int) == 7) = false := beq_eq_false_iff_ne.2 (by omega)
      have a3 : ((k : Int) != 1) = true := by rw [bne_iff_ne]; omega
      have a4 : ((k : Int) != 2) = true := by rw [bne_iff_ne]; omega
      by_cases hd0 : y.toNat < 32
      · have c1 : ¬ (48 : Int) ≤ (y.toNat : Int) := by omega
        have d1 : decide ((48 : Int) ≤ (y.toNat : Int)) = false := decide_eq_false c1
        have c2 : ¬ (32 : Int) ≤ (y.toNat : Int) := by omega
        have d2 : decide ((32 : Int) ≤ (y.toNat : Int)) = false := decide_eq_false c2
        have HSG := Lib.hid (show sgnF k y = false by unfold sgnF; rw [if_neg (by omega), if_pos (by omega), decide_eq_false (show ¬ 32 ≤ y.toNat by omega), Bool.false_and])
        clear hy
        have HB := Lib.hid (Below.refl W.heap.size W)
        go_enter Tryd.func9, Tryd.ntmps9
        obtain ⟨V0, hV0⟩ : ∃ V, V = W.alloc (.cells #[.int .i64 no, .slice A m c, .int .u16 (tn : Int), .int .u8 (y.toNat : Int)] 49) := ⟨_, rfl⟩
        have ha := (Below.refl W.heap.size W).alloc (Nat.le_refl _) (.cells #[.int .i64 no, .slice A m c, .int .u16 (tn : Int), .int .u8 (y.toNat : Int)] 49)
        have hg := heap_alloc_new W (.cells #[.int .i64 no, .slice A m c, .int .u16 (tn : Int), .int .u8 (y.toNat : Int)] 49)
        have nHB := Lib.hid (HB.out.alloc HB.out.size (.cells #[.int .i64 no, .slice A m c, .int .u16 (tn : Int), .int .u8 (y.toNat : Int)] 49))
        rw [← hV0] at ha hg nHB
        have nR0 := Lib.hid ((R0.out.below ha (Nat.le_refl _)).more ha.size)
        obtain ⟨gb, hgb⟩ : ∃ g, g = W.heap.size := ⟨_, rfl⟩
        rw [← hgb] at hg
        have HXGB := Lib.hid hgb
        have GB := Lib.hid hg
        have HV := Lib.hid hV0
        clear ha hg hV0 hgb
        clear HB R0
        have HB := nHB
        have R0 := nR0
        clear nHB nR0
        go_wp2_with fail
        rw [← HV.out]
        (try rw [← HXGB.out])
        clear HV HXGB
        clear GB
        refine (shown5_any _ (HT.out.below HB.out)).mono ?_
        rintro e w1 ⟨rfl, hb⟩
        have nHB := Lib.hid (bel5 HB.out hb HB.out.size)
        have nR0 := Lib.hid ((R0.out.below hb (Nat.le_refl _)).more hb.size)
        clear hb
        clear HB R0
        have HB := nHB
        have R0 := nR0
        clear nHB nR0
        go_wp2_with fail
        refine (CO1.out _ (HT.out.below HB.out)).mono ?_
        rintro e w2 ⟨rfl, hb⟩
        have nHB := Lib.hid (bel5 HB.out hb HB.out.size)
        have nR0 := Lib.hid ((R0.out.below hb (Nat.le_refl _)).more hb.size)
        clear hb
        clear HB R0
        have HB := nHB
        have R0 := nR0
        clear nHB nR0
        obtain ⟨V2, hV2⟩ : ∃ V, V = w2.alloc (.cells #[.int .i64 (k : Int), .int .i64 (n : Int)] 25) := ⟨_, rfl⟩
        have ha := (Below.refl w2.heap.size w2).alloc (Nat.le_refl _) (.cells #[.int .i64 (k : Int), .int .i64 (n : Int)] 25)
        have hg := heap_alloc_new w2 (.cells #[.int .i64 (k : Int), .int .i64 (n : Int)] 25)
        have nHB := Lib.hid (HB.out.alloc HB.out.size (.cells #[.int .i64 (k : Int), .int .i64 (n : Int)] 25))
        rw [← hV2] at ha hg nHB
        have nR0 := Lib.hid ((R0.out.below ha (Nat.le_refl _)).more ha.size)
        obtain ⟨g8, hg8⟩ : ∃ g, g = w2.heap.size := ⟨_, rfl⟩
        rw [← hg8] at hg
        have HXG8 := Lib.hid hg8
        have G8 := Lib.hid hg
        have HV := Lib.hid hV2
        clear ha hg hV2 hg8
        clear HB R0
        have HB := nHB
        have R0 := nR0
        clear nHB nR0
        go_wp2_with fail
        rw [← HV.out]
        (try rw [← HXG8.out])
        clear HV HXG8
        refine (CF1.out _ R0.out (HT.out.below HB.out)).mono ?_
        rintro e w3 ⟨rfl, hb⟩
        have nHB := Lib.hid (bel5 HB.out hb HB.out.size)
        have nR0 := Lib.hid ((R0.out.below hb (Nat.le_refl _)).more hb.size)
        have nG8 := Lib.hid (old5 G8.out hb (Nat.le_refl _))
        clear hb
        clear HB R0 G8
        have HB := nHB
        have R0 := nR0
        have G8 := nG8
        clear nHB nR0 nG8
        go_wp2_with (first
          | (at_builtin; refine wpList_appS _ rfl (.tmp 53) (.tmp 54) rfl w3.heap.size _ [] v rfl (by exact Ow.made0 w3 (Nat.le_refl _)) _ _ _ _ rfl HM.out (by exact R0.out.below ((Below.refl w3.heap.size w3).alloc (Nat.le_refl _) _) (Nat.le_refl _)) (by have := HML.out; have := HM.out; show 0 + List.length v ≤ 100000000; omega) (by exact le_alloc (Nat.le_refl _) _) ?_; intro v5 w5 hown5 hgrow5; have hb5 := Ow.below (w0 := w3) (by exact Ow.made0 w3 (Nat.le_refl _)) (by exact (Below.refl w3.heap.size w3).alloc (Nat.le_refl _) _) hgrow5 (by exact le_alloc (Nat.le_refl _) _); have HB5 := Lib.hid hb5; rw [List.nil_append] at hown5; obtain ⟨g, c5, e5, hg5, -⟩ := World.ownsRow.form hown5 (by have := HM.out; have := HM0.out; omega); rw [← HM.out] at e5; subst e5; have HO5 := Lib.hid hown5; have k1 := World.ownsRow.cells hown5 (g := g) rfl q _ (cs_get v q (by have := HM.out; have := HQL.out; omega)); rw [Addr.add_lit, Nat.zero_add] at k1; have k2 := Ow.thaw5 hown5 q; have HGB := Lib.hid hg5; have hp := old5 G8.out (HB5.out.setCell (p := ⟨g, q, none⟩) hg5 (.int .u8 (y.toNat : Int))) (Nat.le_refl _); obtain ⟨x0, x1⟩ := cells2 hp; clear hown5 hgrow5 hb5 hg5 hp))
        have hs6 := HO5.out.set5 q y
        have hb6 := HB5.out.setCell (p := ⟨g, q, none⟩) HGB.out (.int .u8 (y.toNat : Int))
        have HB6 := Lib.hid (bel5 HB.out hb6 HB.out.size)
        generalize w5.setCell ⟨g, q, none⟩ (.int .u8 (y.toNat : Int)) = w6 at *
        have hr6 : Rd w6 w6.heap.size (some ⟨g, 0, none⟩) (v.set q y) := by
          obtain ⟨A', c', e', -, -, hr'⟩ := hs6.form
          injection e' with e1 e2 e3
          rw [e1]
          exact hr'
        have HR6 := Lib.hid hr6
        clear hs6 hb6 hr6 x0 x1 k1 k2 HO5 HB5
        refine (CF2.out _ _ _ HR6.out (HT.out.below HB6.out)).mono ?_
        rintro e w7 ⟨rfl, hb⟩
        have HB7 := Lib.hid (bel5 HB6.out hb HB6.out.size)
        clear hb
        go_wp2_with fail
        go_ret
        exact ⟨by rw [HSG.out]; rfl, HB7.out⟩
      by_cases hd1 : y.toNat < 48
      · have c1 : ¬ (48 : Int) ≤ (y.toNat : Int) := by omega
        have d1 : decide ((48 : Int) ≤ (y.toNat : Int)) = false := decide_eq_false c1
        have c2 : (32 : Int) ≤ (y.toNat : Int) := by omega
        have c3 : (y.toNat : Int) ≤ 126 := by omega
        have HSG := Lib.hid (show sgnF k y = true by unfold sgnF; rw [if_neg (by omega), if_pos (by omega), decide_eq_true (show 32 ≤ y.toNat by omega), decide_eq_true (show y.toNat ≤ 126 by omega)]; rfl)
        clear hy
        have HB := Lib.hid (Below.refl W.heap.size W)
        go_enter Tryd.func9, Tryd.ntmps9
        obtain ⟨V0, hV0⟩ : ∃ V, V = W.alloc (.cells #[.int .i64 no, .slice A m c, .int .u16 (tn : Int), .int .u8 (y.toNat : Int)] 49) := ⟨_, rfl⟩
        have ha := (Below.refl W.heap.size W).alloc (Nat.le_refl _) (.cells #[.int .i64 no, .slice A m c, .int .u16 (tn : Int), .int .u8 (y.toNat : Int)] 49)
        have hg := heap_alloc_new W (.cells #[.int .i64 no, .slice A m c, .int .u16 (tn : Int), .int .u8 (y.toNat : Int)] 49)
        have nHB := Lib.hid (HB.out.alloc HB.out.size (.cells #[.int .i64 no, .slice A m c, .int .u16 (tn : Int), .int .u8 (y.toNat : Int)] 49))
        rw [← hV0] at ha hg nHB
        have nR0 := Lib.hid ((R0.out.below ha (Nat.le_refl _)).more ha.size)
        obtain ⟨gb, hgb⟩ : ∃ g, g = W.heap.size := ⟨_, rfl⟩
        rw [← hgb] at hg
        have HXGB := Lib.hid hgb
        have GB := Lib.hid hg
        have HV := Lib.hid hV0
        clear ha hg hV0 hgb
        clear HB R0
        have HB := nHB
        have R0 := nR0
        clear nHB nR0
        go_wp2_with fail
        rw [← HV.out]
        (try rw [← HXGB.out])
        clear HV HXGB
        clear GB
        refine (shown5_any _ (HT.out.below HB.out)).mono ?_
        rintro e w1 ⟨rfl, hb⟩
        have nHB := Lib.hid (bel5 HB.out hb HB.out.size)
        have nR0 := Lib.hid ((R0.out.below hb (Nat.le_refl _)).more hb.size)
        clear hb
        clear HB R0
        have HB := nHB
        have R0 := nR0
        clear nHB nR0
        go_wp2_with fail
        refine (CO1.out _ (HT.out.below HB.out)).mono ?_
        rintro e w2 ⟨rfl, hb⟩
        have nHB := Lib.hid (bel5 HB.out hb HB.out.size)
        have nR0 := Lib.hid ((R0.out.below hb (Nat.le_refl _)).more hb.size)
        clear hb
        clear HB R0
        have HB := nHB
        have R0 := nR0
        clear nHB nR0
        obtain ⟨V2, hV2⟩ : ∃ V, V = w2.alloc (.cells #[.int .i64 (k : Int), .int .i64 (n : Int)] 25) := ⟨_, rfl⟩
        have ha := (Below.refl w2.heap.size w2).alloc (Nat.le_refl _) (.cells #[.int .i64 (k : Int), .int .i64 (n : Int)] 25)
        have hg := heap_alloc_new w2 (.cells #[.int .i64 (k : Int), .int .i64 (n : Int)] 25)
        have nHB := Lib.hid (HB.out.alloc HB.out.size (.cells #[.int .i64 (k : Int), .int .i64 (n : Int)] 25))
        rw [← hV2] at ha hg nHB
        have nR0 := Lib.hid ((R0.out.below ha (Nat.le_refl _)).more ha.size)
        obtain ⟨g8, hg8⟩ : ∃ g, g = w2.heap.size := ⟨_, rfl⟩
        rw [← hg8] at hg
        have HXG8 := Lib.hid hg8
        have G8 := Lib.hid hg
        have HV := Lib.hid hV2
        clear ha hg hV2 hg8
        clear HB R0
        have HB := nHB
        have R0 := nR0
        clear nHB nR0
        go_wp2_with fail
        rw [← HV.out]
        (try rw [← HXG8.out])
        clear HV HXG8
        refine (CF1.out _ R0.out (HT.out.below HB.out)).mono ?_
        rintro e w3 ⟨rfl, hb⟩
        have nHB := Lib.hid (bel5 HB.out hb HB.out.size)
        have nR0 := Lib.hid ((R0.out.below hb (Nat.le_refl _)).more hb.size)
        have nG8 := Lib.hid (old5 G8.out hb (Nat.le_refl _))
        clear hb
        clear HB R0 G8
        have HB := nHB
        have R0 := nR0
        have G8 := nG8
        clear nHB nR0 nG8
        go_wp2_with (first
          | (at_builtin; refine wpList_appS _ rfl (.tmp 53) (.tmp 54) rfl w3.heap.size _ [] v rfl (by exact Ow.made0 w3 (Nat.le_refl _)) _ _ _ _ rfl HM.out (by exact R0.out.below ((Below.refl w3.heap.size w3).alloc (Nat.le_refl _) _) (Nat.le_refl _)) (by have := HML.out; have := HM.out; show 0 + List.length v ≤ 100000000; omega) (by exact le_alloc (Nat.le_refl _) _) ?_; intro v5 w5 hown5 hgrow5; have hb5 := Ow.below (w0 := w3) (by exact Ow.made0 w3 (Nat.le_refl _)) (by exact (Below.refl w3.heap.size w3).alloc (Nat.le_refl _) _) hgrow5 (by exact le_alloc (Nat.le_refl _) _); have HB5 := Lib.hid hb5; rw [List.nil_append] at hown5; obtain ⟨g, c5, e5, hg5, -⟩ := World.ownsRow.form hown5 (by have := HM.out; have := HM0.out; omega); rw [← HM.out] at e5; subst e5; have HO5 := Lib.hid hown5; have k1 := World.ownsRow.cells hown5 (g := g) rfl q _ (cs_get v q (by have := HM.out; have := HQL.out; omega)); rw [Addr.add_lit, Nat.zero_add] at k1; have k2 := Ow.thaw5 hown5 q; have HGB := Lib.hid hg5; have hp := old5 G8.out (HB5.out.setCell (p := ⟨g, q, none⟩) hg5 (.int .u8 (y.toNat : Int))) (Nat.le_refl _); obtain ⟨x0, x1⟩ := cells2 hp; clear hown5 hgrow5 hb5 hg5 hp))
        have hs6 := HO5.out.set5 q y
        have hb6 := HB5.out.setCell (p := ⟨g, q, none⟩) HGB.out (.int .u8 (y.toNat : Int))
        have HB6 := Lib.hid (bel5 HB.out hb6 HB.out.size)
        generalize w5.setCell ⟨g, q, none⟩ (.int .u8 (y.toNat : Int)) = w6 at *
        have hr6 : Rd w6 w6.heap.size (some ⟨g, 0, none⟩) (v.set q y) := by
          obtain ⟨A', c', e', -, -, hr'⟩ := hs6.form
          injection e' with e1 e2 e3
          rw [e1]
          exact hr'
        have HR6 := Lib.hid hr6
        clear hs6 hb6 hr6 x0 x1 k1 k2 HO5 HB5
        refine (CF2.out _ _ _ HR6.out (HT.out.below HB6.out)).mono ?_
        rintro e w7 ⟨rfl, hb⟩
        have HB7 := Lib.hid (bel5 HB6.out hb HB6.out.size)
        clear hb
        go_wp2_with fail
        go_ret
        exact ⟨by rw [HSG.out]; rfl, HB7.out⟩
      by_cases hd2 : y.toNat ≤ 57
      · have c1 : (48 : Int) ≤ (y.toNat : Int) := by omega
        have c2 : (y.toNat : Int) ≤ 57 := by omega
        have HSG := Lib.hid (show sgnF k y = true by unfold sgnF; rw [if_neg (by omega), if_pos (by omega), decide_eq_true (show 32 ≤ y.toNat by omega), decide_eq_true (show y.toNat ≤ 126 by omega)]; rfl)
        clear hy
        have HB := Lib.hid (Below.refl W.heap.size W)
        go_enter Tryd.func9, Tryd.ntmps9
        obtain ⟨V0, hV0⟩ : ∃ V, V = W.alloc (.cells #[.int .i64 no, .slice A m c, .int .u16 (tn : Int), .int .u8 (y.toNat : Int)] 49) := ⟨_, rfl⟩
        have ha := (Below.refl W.heap.size W).alloc (Nat.le_refl _) (.cells #[.int .i64 no, .slice A m c, .int .u16 (tn : Int), .int .u8 (y.toNat : Int)] 49)
        have hg := heap_alloc_new W (.cells #[.int .i64 no, .slice A m c, .int .u16 (tn : Int), .int .u8 (y.toNat : Int)] 49)
        have nHB := Lib.hid (HB.out.alloc HB.out.size (.cells #[.int .i64 no, .slice A m c, .int .u16 (tn : Int), .int .u8 (y.toNat : Int)] 49))
        rw [← hV0] at ha hg nHB
        have nR0 := Lib.hid ((R0.out.below ha (Nat.le_refl _)).more ha.size)
        obtain ⟨gb, hgb⟩ : ∃ g, g = W.heap.size := ⟨_, rfl⟩
        rw [← hgb] at hg
        have HXGB := Lib.hid hgb
        have GB := Lib.hid hg
        have HV := Lib.hid hV0
        clear ha hg hV0 hgb
        clear HB R0
        have HB := nHB
        have R0 := nR0
        clear nHB nR0
        go_wp2_with fail
        rw [← HV.out]
        (try rw [← HXGB.out])
        clear HV HXGB
        clear GB
        refine (shown5_any _ (HT.out.below HB.out)).mono ?_
        rintro e w1 ⟨rfl, hb⟩
        have nHB := Lib.hid (bel5 HB.out hb HB.out.size)
        have nR0 := Lib.hid ((R0.out.below hb (Nat.le_refl _)).more hb.size)
        clear hb
        clear HB R0
        have HB := nHB
        have R0 := nR0
        clear nHB nR0
        go_wp2_with fail
        refine (CO1.out _ (HT.out.below HB.out)).mono ?_
        rintro e w2 ⟨rfl, hb⟩
        have nHB := Lib.hid (bel5 HB.out hb HB.out.size)
        have nR0 := Lib.hid ((R0.out.below hb (Nat.le_refl _)).more hb.size)
        clear hb
        clear HB R0
        have HB := nHB
        have R0 := nR0
        clear nHB nR0
        obtain ⟨V2, hV2⟩ : ∃ V, V = w2.alloc (.cells #[.int .i64 (k : Int), .int .i64 (n : Int)] 25) := ⟨_, rfl⟩
        have ha := (Below.refl w2.heap.size w2).alloc (Nat.le_refl _) (.cells #[.int .i64 (k : Int), .int .i64 (n : Int)] 25)
        have hg := heap_alloc_new w2 (.cells #[.int .i64 (k : Int), .int .i64 (n : Int)] 25)
        have nHB := Lib.hid (HB.out.alloc HB.out.size (.cells #[.int .i64 (k : Int), .int .i64 (n : Int)] 25))
        rw [← hV2] at ha hg nHB
        have nR0 := Lib.hid ((R0.out.below ha (Nat.le_refl _)).more ha.size)
        obtain ⟨g8, hg8⟩ : ∃ g, g = w2.heap.size := ⟨_, rfl⟩
        rw [← hg8] at hg
        have HXG8 := Lib.hid hg8
        have G8 := Lib.hid hg
        have HV := Lib.hid hV2
        clear ha hg hV2 hg8
        clear HB R0
        have HB := nHB
        have R0 := nR0
        clear nHB nR0
        go_wp2_with fail
        rw [← HV.out]
        (try rw [← HXG8.out])
        clear HV HXG8
        refine (CF1.out _ R0.out (HT.out.below HB.out)).mono ?_
        rintro e w3 ⟨rfl, hb⟩
        have nHB := Lib.hid (bel5 HB.out hb HB.out.size)
        have nR0 := Lib.hid ((R0.out.below hb (Nat.le_refl _)).more hb.size)
        have nG8 := Lib.hid (old5 G8.out hb (Nat.le_refl _))
        clear hb
        clear HB R0 G8
        have HB := nHB
        have R0 := nR0
        have G8 := nG8
        clear nHB nR0 nG8
        go_wp2_with (first
          | (at_builtin; refine wpList_appS _ rfl (.tmp 53) (.tmp 54) rfl w3.heap.size _ [] v rfl (by exact Ow.made0 w3 (Nat.le_refl _)) _ _ _ _ rfl HM.out (by exact R0.out.below ((Below.refl w3.heap.size w3).alloc (Nat.le_refl _) _) (Nat.le_refl _)) (by have := HML.out; have := HM.out; show 0 + List.length v ≤ 100000000; omega) (by exact le_alloc (Nat.le_refl _) _) ?_; intro v5 w5 hown5 hgrow5; have hb5 := Ow.below (w0 := w3) (by exact Ow.made0 w3 (Nat.le_refl _)) (by exact (Below.refl w3.heap.size w3).alloc (Nat.le_refl _) _) hgrow5 (by exact le_alloc (Nat.le_refl _) _); have HB5 := Lib.hid hb5; rw [List.nil_append] at hown5; obtain ⟨g, c5, e5, hg5, -⟩ := World.ownsRow.form hown5 (by have := HM.out; have := HM0.out; omega); rw [← HM.out] at e5; subst e5; have HO5 := Lib.hid hown5; have k1 := World.ownsRow.cells hown5 (g := g) rfl q _ (cs_get v q (by have := HM.out; have := HQL.out; omega)); rw [Addr.add_lit, Nat.zero_add] at k1; have k2 := Ow.thaw5 hown5 q; have HGB := Lib.hid hg5; have hp := old5 G8.out (HB5.out.setCell (p := ⟨g, q, none⟩) hg5 (.int .u8 (y.toNat : Int))) (Nat.le_refl _); obtain ⟨x0, x1⟩ := cells2 hp; clear hown5 hgrow5 hb5 hg5 hp))
        have hs6 := HO5.out.set5 q y
        have hb6 := HB5.out.setCell (p := ⟨g, q, none⟩) HGB.out (.int .u8 (y.toNat : Int))
        have HB6 := Lib.hid (bel5 HB.out hb6 HB.out.size)
        generalize w5.setCell ⟨g, q, none⟩ (.int .u8 (y.toNat : Int)) = w6 at *
        have hr6 : Rd w6 w6.heap.size (some ⟨g, 0, none⟩) (v.set q y) := by
          obtain ⟨A', c', e', -, -, hr'⟩ := hs6.form
          injection e' with e1 e2 e3
          rw [e1]
          exact hr'
        have HR6 := Lib.hid hr6
        clear hs6 hb6 hr6 x0 x1 k1 k2 HO5 HB5
        refine (CF2.out _ _ _ HR6.out (HT.out.below HB6.out)).mono ?_
        rintro e w7 ⟨rfl, hb⟩
        have HB7 := Lib.hid (bel5 HB6.out hb HB6.out.size)
        clear hb
        go_wp2_with fail
        go_ret
        exact ⟨by rw [HSG.out]; rfl, HB7.out⟩
      by_cases hd3 : y.toNat ≤ 126
      · have c1 : (48 : Int) ≤ (y.toNat : Int) := by omega
        have c2 : ¬ (y.toNat : Int) ≤ 57 := by omega
        have d2 : decide ((y.toNat : Int) ≤ 57) = false := decide_eq_false c2
        have c3 : (32 : Int) ≤ (y.toNat : Int) := by omega
        have c4 : (y.toNat : Int) ≤ 126 := by omega
        have HSG := Lib.hid (show sgnF k y = true by unfold sgnF; rw [if_neg (by omega), if_pos (by omega), decide_eq_true (show 32 ≤ y.toNat by omega), decide_eq_true (show y.toNat ≤ 126 by omega)]; rfl)
        clear hy
        have HB := Lib.hid (Below.refl W.heap.size W)
        go_enter Tryd.func9, Tryd.ntmps9
        obtain ⟨V0, hV0⟩ : ∃ V, V = W.alloc (.cells #[.int .i64 no, .slice A m c, .int .u16 (tn : Int), .int .u8 (y.toNat : Int)] 49) := ⟨_, rfl⟩
        have ha := (Below.refl W.heap.size W).alloc (Nat.le_refl _) (.cells #[.int .i64 no, .slice A m c, .int .u16 (tn : Int), .int .u8 (y.toNat : Int)] 49)
        have hg := heap_alloc_new W (.cells #[.int .i64 no, .slice A m c, .int .u16 (tn : Int), .int .u8 (y.toNat : Int)] 49)
        have nHB := Lib.hid (HB.out.alloc HB.out.size (.cells #[.int .i64 no, .slice A m c, .int .u16 (tn : Int), .int .u8 (y.toNat : Int)] 49))
        rw [← hV0] at ha hg nHB
        have nR0 := Lib.hid ((R0.out.below ha (Nat.le_refl _)).more ha.size)
        obtain ⟨gb, hgb⟩ : ∃ g, g = W.heap.size := ⟨_, rfl⟩
        rw [← hgb] at hg
        have HXGB := Lib.hid hgb
        have GB := Lib.hid hg
        have HV := Lib.hid hV0
        clear ha hg hV0 hgb
        clear HB R0
        have HB := nHB
        have R0 := nR0
        clear nHB nR0
        go_wp2_with fail
        rw [← HV.out]
        (try rw [← HXGB.out])
        clear HV HXGB
        clear GB
        refine (shown5_any _ (HT.out.below HB.out)).mono ?_
        rintro e w1 ⟨rfl, hb⟩
        have nHB := Lib.hid (bel5 HB.out hb HB.out.size)
        have nR0 := Lib.hid ((R0.out.below hb (Nat.le_refl _)).more hb.size)
        clear hb
        clear HB R0
        have HB := nHB
        have R0 := nR0
        clear nHB nR0
        go_wp2_with fail
        refine (CO1.out _ (HT.out.below HB.out)).mono ?_
        rintro e w2 ⟨rfl, hb⟩
        have nHB := Lib.hid (bel5 HB.out hb HB.out.size)
        have nR0 := Lib.hid ((R0.out.below hb (Nat.le_refl _)).more hb.size)
        clear hb
        clear HB R0
        have HB := nHB
        have R0 := nR0
        clear nHB nR0
        obtain ⟨V2, hV2⟩ : ∃ V, V = w2.alloc (.cells #[.int .i64 (k : Int), .int .i64 (n : Int)] 25) := ⟨_, rfl⟩
        have ha := (Below.refl w2.heap.size w2).alloc (Nat.le_refl _) (.cells #[.int .i64 (k : Int), .int .i64 (n : Int)] 25)
        have hg := heap_alloc_new w2 (.cells #[.int .i64 (k : Int), .int .i64 (n : Int)] 25)
        have nHB := Lib.hid (HB.out.alloc HB.out.size (.cells #[.int .i64 (k : Int), .int .i64 (n : Int)] 25))
        rw [← hV2] at ha hg nHB
        have nR0 := Lib.hid ((R0.out.below ha (Nat.le_refl _)).more ha.size)
        obtain ⟨g8, hg8⟩ : ∃ g, g = w2.heap.size := ⟨_, rfl⟩
        rw [← hg8] at hg
        have HXG8 := Lib.hid hg8
        have G8 := Lib.hid hg
        have HV := Lib.hid hV2
        clear ha hg hV2 hg8
        clear HB R0
        have HB := nHB
        have R0 := nR0
        clear nHB nR0
        go_wp2_with fail
        rw [← HV.out]
        (try rw [← HXG8.out])
        clear HV HXG8
        refine (CF1.out _ R0.out (HT.out.below HB.out)).mono ?_
        rintro e w3 ⟨rfl, hb⟩
        have nHB := Lib.hid (bel5 HB.out hb HB.out.size)
        have nR0 := Lib.hid ((R0.out.below hb (Nat.le_refl _)).more hb.size)
        have nG8 := Lib.hid (old5 G8.out hb (Nat.le_refl _))
        clear hb
        clear HB R0 G8
        have HB := nHB
        have R0 := nR0
        have G8 := nG8
        clear nHB nR0 nG8
        go_wp2_with (first
          | (at_builtin; refine wpList_appS _ rfl (.tmp 53) (.tmp 54) rfl w3.heap.size _ [] v rfl (by exact Ow.made0 w3 (Nat.le_refl _)) _ _ _ _ rfl HM.out (by exact R0.out.below ((Below.refl w3.heap.size w3).alloc (Nat.le_refl _) _) (Nat.le_refl _)) (by have := HML.out; have := HM.out; show 0 + List.length v ≤ 100000000; omega) (by exact le_alloc (Nat.le_refl _) _) ?_; intro v5 w5 hown5 hgrow5; have hb5 := Ow.below (w0 := w3) (by exact Ow.made0 w3 (Nat.le_refl _)) (by exact (Below.refl w3.heap.size w3).alloc (Nat.le_refl _) _) hgrow5 (by exact le_alloc (Nat.le_refl _) _); have HB5 := Lib.hid hb5; rw [List.nil_append] at hown5; obtain ⟨g, c5, e5, hg5, -⟩ := World.ownsRow.form hown5 (by have := HM.out; have := HM0.out; omega); rw [← HM.out] at e5; subst e5; have HO5 := Lib.hid hown5; have k1 := World.ownsRow.cells hown5 (g := g) rfl q _ (cs_get v q (by have := HM.out; have := HQL.out; omega)); rw [Addr.add_lit, Nat.zero_add] at k1; have k2 := Ow.thaw5 hown5 q; have HGB := Lib.hid hg5; have hp := old5 G8.out (HB5.out.setCell (p := ⟨g, q, none⟩) hg5 (.int .u8 (y.toNat : Int))) (Nat.le_refl _); obtain ⟨x0, x1⟩ := cells2 hp; clear hown5 hgrow5 hb5 hg5 hp))
        have hs6 := HO5.out.set5 q y
        have hb6 := HB5.out.setCell (p := ⟨g, q, none⟩) HGB.out (.int .u8 (y.toNat : Int))
        have HB6 := Lib.hid (bel5 HB.out hb6 HB.out.size)
        generalize w5.setCell ⟨g, q, none⟩ (.int .u8 (y.toNat : Int)) = w6 at *
        have hr6 : Rd w6 w6.heap.size (some ⟨g, 0, none⟩) (v.set q y) := by
          obtain ⟨A', c', e', -, -, hr'⟩ := hs6.form
          injection e' with e1 e2 e3
          rw [e1]
          exact hr'
        have HR6 := Lib.hid hr6
        clear hs6 hb6 hr6 x0 x1 k1 k2 HO5 HB5
        refine (CF2.out _ _ _ HR6.out (HT.out.below HB6.out)).mono ?_
        rintro e w7 ⟨rfl, hb⟩
        have HB7 := Lib.hid (bel5 HB6.out hb HB6.out.size)
        clear hb
        go_wp2_with fail
        go_ret
        exact ⟨by rw [HSG.out]; rfl, HB7.out⟩
      have c1 : (48 : Int) ≤ (y.toNat : Int) := by omega
      have c2 : ¬ (y.toNat : Int) ≤ 57 := by omega
      have d2 : decide ((y.toNat : Int) ≤ 57) = false := decide_eq_false c2
      have c3 : (32 : Int) ≤ (y.toNat : Int) := by omega
      have c4 : ¬ (y.toNat : Int) ≤ 126 := by omega
      have d4 : decide ((y.toNat : Int) ≤ 126) = false := decide_eq_false c4
      have HSG := Lib.hid (show sgnF k y = false by unfold sgnF; rw [if_neg (by omega), if_pos (by omega), decide_eq_false (show ¬ y.toNat ≤ 126 by omega), Bool.and_false])
      clear hy
      have HB := Lib.hid (Below.refl W.heap.size W)
      go_enter Tryd.func9, Tryd.ntmps9
      obtain ⟨V0, hV0⟩ : ∃ V, V = W.alloc (.cells #[.int .i64 no, .slice A m c, .int .u16 (tn : Int), .int .u8 (y.toNat : Int)] 49) := ⟨_, rfl⟩
      have ha := (Below.refl W.heap.size W).alloc (Nat.le_refl _) (.cells #[.int .i64 no, .slice A m c, .int .u16 (tn : Int), .int .u8 (y.toNat : Int)] 49)
      have hg := heap_alloc_new W (.cells #[.int .i64 no, .slice A m c, .int .u16 (tn : Int), .int .u8 (y.toNat : Int)] 49)
      have nHB := Lib.hid (HB.out.alloc HB.out.size (.cells #[.int .i64 no, .slice A m c, .int .u16 (tn : Int), .int .u8 (y.toNat : Int)] 49))
      rw [← hV0] at ha hg nHB
      have nR0 := Lib.hid ((R0.out.below ha (Nat.le_refl _)).more ha.size)
      obtain ⟨gb, hgb⟩ : ∃ g, g = W.heap.size := ⟨_, rfl⟩
      rw [← hgb] at hg
      have HXGB := Lib.hid hgb
      have GB := Lib.hid hg
      have HV := Lib.hid hV0
      clear ha hg hV0 hgb
      clear HB R0
      have HB := nHB
      have R0 := nR0
      clear nHB nR0
      go_wp2_with fail
      rw [← HV.out]
      (try rw [← HXGB.out])
      clear HV HXGB
      clear GB
      refine (shown5_any _ (HT.out.below HB.out)).mono ?_
      rintro e w1 ⟨rfl, hb⟩
      have nHB := Lib.hid (bel5 HB.out hb HB.out.size)
      have nR0 := Lib.hid ((R0.out.below hb (Nat.le_refl _)).more hb.size)
      clear hb
      clear HB R0
      have HB := nHB
      have R0 := nR0
      clear nHB nR0
      go_wp2_with fail
      refine (CO1.out _ (HT.out.below HB.out)).mono ?_
      rintro e w2 ⟨rfl, hb⟩
      have nHB := Lib.hid (bel5 HB.out hb HB.out.size)
      have nR0 := Lib.hid ((R0.out.below hb (Nat.le_refl _)).more hb.size)
      clear hb
      clear HB R0
      have HB := nHB
      have R0 := nR0
      clear nHB nR0
      obtain ⟨V2, hV2⟩ : ∃ V, V = w2.alloc (.cells #[.int .i64 (k : Int), .int .i64 (n : Int)] 25) := ⟨_, rfl⟩
      have ha := (Below.refl w2.heap.size w2).alloc (Nat.le_refl _) (.cells #[.int .i64 (k : Int), .int .i64 (n : Int)] 25)
      have hg := heap_alloc_new w2 (.cells #[.int .i64 (k : Int), .int .i64 (n : Int)] 25)
      have nHB := Lib.hid (HB.out.alloc HB.out.size (.cells #[.int .i64 (k : Int), .int .i64 (n : Int)] 25))
      rw [← hV2] at ha hg nHB
      have nR0 := Lib.hid ((R0.out.below ha (Nat.le_refl _)).more ha.size)
      obtain ⟨g8, hg8⟩ : ∃ g, g = w2.heap.size := ⟨_, rfl⟩
      rw [← hg8] at hg
      have HXG8 := Lib.hid hg8
      have G8 := Lib.hid hg
      have HV := Lib.hid hV2
      clear ha hg hV2 hg8
      clear HB R0
      have HB := nHB
      have R0 := nR0
      clear nHB nR0
      go_wp2_with fail
      rw [← HV.out]
      (try rw [← HXG8.out])
      clear HV HXG8
      refine (CF1.out _ R0.out (HT.out.below HB.out)).mono ?_
      rintro e w3 ⟨rfl, hb⟩
      have nHB := Lib.hid (bel5 HB.out hb HB.out.size)
      have nR0 := Lib.hid ((R0.out.below hb (Nat.le_refl _)).more hb.size)
      have nG8 := Lib.hid (old5 G8.out hb (Nat.le_refl _))
      clear hb
      clear HB R0 G8
      have HB := nHB
      have R0 := nR0
      have G8 := nG8
      clear nHB nR0 nG8
      go_wp2_with (first
        | (at_builtin; refine wpList_appS _ rfl (.tmp 53) (.tmp 54) rfl w3.heap.size _ [] v rfl (by exact Ow.made0 w3 (Nat.le_refl _)) _ _ _ _ rfl HM.out (by exact R0.out.below ((Below.refl w3.heap.size w3).alloc (Nat.le_refl _) _) (Nat.le_refl _)) (by have := HML.out; have := HM.out; show 0 + List.length v ≤ 100000000; omega) (by exact le_alloc (Nat.le_refl _) _) ?_; intro v5 w5 hown5 hgrow5; have hb5 := Ow.below (w0 := w3) (by exact Ow.made0 w3 (Nat.le_refl _)) (by exact (Below.refl w3.heap.size w3).alloc (Nat.le_refl _) _) hgrow5 (by exact le_alloc (Nat.le_refl _) _); have HB5 := Lib.hid hb5; rw [List.nil_append] at hown5; obtain ⟨g, c5, e5, hg5, -⟩ := World.ownsRow.form hown5 (by have := HM.out; have := HM0.out; omega); rw [← HM.out] at e5; subst e5; have HO5 := Lib.hid hown5; have k1 := World.ownsRow.cells hown5 (g := g) rfl q _ (cs_get v q (by have := HM.out; have := HQL.out; omega)); rw [Addr.add_lit, Nat.zero_add] at k1; have k2 := Ow.thaw5 hown5 q; have HGB := Lib.hid hg5; have hp := old5 G8.out (HB5.out.setCell (p := ⟨g, q, none⟩) hg5 (.int .u8 (y.toNat : Int))) (Nat.le_refl _); obtain ⟨x0, x1⟩ := cells2 hp; clear hown5 hgrow5 hb5 hg5 hp))
      have hs6 := HO5.out.set5 q y
      have hb6 := HB5.out.setCell (p := ⟨g, q, none⟩) HGB.out (.int .u8 (y.toNat : Int))
      have HB6 := Lib.hid (bel5 HB.out hb6 HB.out.size)
      generalize w5.setCell ⟨g, q, none⟩ (.int .u8 (y.toNat : Int)) = w6 at *
      have hr6 : Rd w6 w6.heap.size (some ⟨g, 0, none⟩) (v.set q y) := by
        obtain ⟨A', c', e', -, -, hr'⟩ := hs6.form
        injection e' with e1 e2 e3
        rw [e1]
        exact hr'
      have HR6 := Lib.hid hr6
      clear hs6 hb6 hr6 x0 x1 k1 k2 HO5 HB5
      refine (CF2.out _ _ _ HR6.out (HT.out.below HB6.out)).mono ?_
      rintro e w7 ⟨rfl, hb⟩
      have HB7 := Lib.hid (bel5 HB6.out hb HB6.out.size)
      clear hb
      go_wp2_with fail
      go_ret
      exact ⟨by rw [HSG.out]; rfl, HB7.out⟩
    · have HSG := Lib.hid (show sgnF 6 y = true by unfold sgnF; rw [if_neg (by omega), if_neg (by omega)])
      clear hy
      have HB := Lib.hid (Below.refl W.heap.size W)
      go_enter Tryd.func9, Tryd.ntmps9
      obtain ⟨V0, hV0⟩ : ∃ V, V = W.alloc (.cells #[.int .i64 no, .slice A m c, .int .u16 (tn : Int), .int .u8 (y.toNat : Int)] 49) := ⟨_, rfl⟩
      have ha := (Below.refl W.heap.size W).alloc (Nat.le_refl _) (.cells #[.int .i64 no, .slice A m c, .int .u16 (tn : Int), .int .u8 (y.toNat : Int)] 49)
      have hg := heap_alloc_new W (.cells #[.int .i64 no, .slice A m c, .int .u16 (tn : Int), .int .u8 (y.toNat : Int)] 49)
      have nHB := Lib.hid (HB.out.alloc HB.out.size (.cells #[.int .i64 no, .slice A m c, .int .u16 (tn : Int), .int .u8 (y.toNat : Int)] 49))
      rw [← hV0] at ha hg nHB
      have nR0 := Lib.hid ((R0.out.below ha (Nat.le_refl _)).more ha.size)
      obtain ⟨gb, hgb⟩ : ∃ g, g = W.heap.size := ⟨_, rfl⟩
      rw [← hgb] at hg
      have HXGB := Lib.hid hgb
      have GB := Lib.hid hg
      have HV := Lib.hid hV0
      clear ha hg hV0 hgb
      clear HB R0
      have HB := nHB
      have R0 := nR0
      clear nHB nR0
      go_wp2_with fail
      rw [← HV.out]
      (try rw [← HXGB.out])
      clear HV HXGB
      clear GB
      refine (shown5_any _ (HT.out.below HB.out)).mono ?_
      rintro e w1 ⟨rfl, hb⟩
      have nHB := Lib.hid (bel5 HB.out hb HB.out.size)
      have nR0 := Lib.hid ((R0.out.below hb (Nat.le_refl _)).more hb.size)
      clear hb
      clear HB R0
      have HB := nHB
      have R0 := nR0
      clear nHB nR0
      go_wp2_with fail
      refine (CO1.out _ (HT.out.below HB.out)).mono ?_
      rintro e w2 ⟨rfl, hb⟩
      have nHB := Lib.hid (bel5 HB.out hb HB.out.size)
      have nR0 := Lib.hid ((R0.out.below hb (Nat.le_refl _)).more hb.size)
      clear hb
      clear HB R0
      have HB := nHB
      have R0 := nR0
      clear nHB nR0
      obtain ⟨V2, hV2⟩ : ∃ V, V = w2.alloc (.cells #[.int .i64 6, .int .i64 (n : Int)] 25) := ⟨_, rfl⟩
      have ha := (Below.refl w2.heap.size w2).alloc (Nat.le_refl _) (.cells #[.int .i64 6, .int .i64 (n : Int)] 25)
      have hg := heap_alloc_new w2 (.cells #[.int .i64 6, .int .i64 (n : Int)] 25)
      have nHB := Lib.hid (HB.out.alloc HB.out.size (.cells #[.int .i64 6, .int .i64 (n : Int)] 25))
      rw [← hV2] at ha hg nHB
      have nR0 := Lib.hid ((R0.out.below ha (Nat.le_refl _)).more ha.size)
      obtain ⟨g8, hg8⟩ : ∃ g, g = w2.heap.size := ⟨_, rfl⟩
      rw [← hg8] at hg
      have HXG8 := Lib.hid hg8
      have G8 := Lib.hid hg
      have HV := Lib.hid hV2
      clear ha hg hV2 hg8
      clear HB R0
      have HB := nHB
      have R0 := nR0
      clear nHB nR0
      go_wp2_with fail
      rw [← HV.out]
      (try rw [← HXG8.out])
      clear HV HXG8
      refine (CF1.out _ R0.out (HT.out.below HB.out)).mono ?_
      rintro e w3 ⟨rfl, hb⟩
      have nHB := Lib.hid (bel5 HB.out hb HB.out.size)
      have nR0 := Lib.hid ((R0.out.below hb (Nat.le_refl _)).more hb.size)
      have nG8 := Lib.hid (old5 G8.out hb (Nat.le_refl _))
      clear hb
      clear HB R0 G8
      have HB := nHB
      have R0 := nR0
      have G8 := nG8
      clear nHB nR0 nG8
      go_wp2_with (first
        | (at_builtin; refine wpList_appS _ rfl (.tmp 53) (.tmp 54) rfl w3.heap.size _ [] v rfl (by exact Ow.made0 w3 (Nat.le_refl _)) _ _ _ _ rfl HM.out (by exact R0.out.below ((Below.refl w3.heap.size w3).alloc (Nat.le_refl _) _) (Nat.le_refl _)) (by have := HML.out; have := HM.out; show 0 + List.length v ≤ 100000000; omega) (by exact le_alloc (Nat.le_refl _) _) ?_; intro v5 w5 hown5 hgrow5; have hb5 := Ow.below (w0 := w3) (by exact Ow.made0 w3 (Nat.le_refl _)) (by exact (Below.refl w3.heap.size w3).alloc (Nat.le_refl _) _) hgrow5 (by exact le_alloc (Nat.le_refl _) _); have HB5 := Lib.hid hb5; rw [List.nil_append] at hown5; obtain ⟨g, c5, e5, hg5, -⟩ := World.ownsRow.form hown5 (by have := HM.out; have := HM0.out; omega); rw [← HM.out] at e5; subst e5; have HO5 := Lib.hid hown5; have k1 := World.ownsRow.cells hown5 (g := g) rfl q _ (cs_get v q (by have := HM.out; have := HQL.out; omega)); rw [Addr.add_lit, Nat.zero_add] at k1; have k2 := Ow.thaw5 hown5 q; have HGB := Lib.hid hg5; have hp := old5 G8.out (HB5.out.setCell (p := ⟨g, q, none⟩) hg5 (.int .u8 (y.toNat : Int))) (Nat.le_refl _); obtain ⟨x0, x1⟩ := cells2 hp; clear hown5 hgrow5 hb5 hg5 hp))
      have hs6 := HO5.out.set5 q y
      have hb6 := HB5.out.setCell (p := ⟨g, q, none⟩) HGB.out (.int .u8 (y.toNat : Int))
      have HB6 := Lib.hid (bel5 HB.out hb6 HB.out.size)
      generalize w5.setCell ⟨g, q, none⟩ (.int .u8 (y.toNat : Int)) = w6 at *
      have hr6 : Rd w6 w6.heap.size (some ⟨g, 0, none⟩) (v.set q y) := by
        obtain ⟨A', c', e', -, -, hr'⟩ := hs6.form
        injection e' with e1 e2 e3
        rw [e1]
        exact hr'
      have HR6 := Lib.hid hr6
      clear hs6 hb6 hr6 x0 x1 k1 k2 HO5 HB5
      refine (CF2.out _ _ _ HR6.out (HT.out.below HB6.out)).mono ?_
      rintro e w7 ⟨rfl, hb⟩
      have HB7 := Lib.hid (bel5 HB6.out hb HB6.out.size)
      clear hb
      go_wp2_with fail
      go_ret
      exact ⟨by rw [HSG.out]; rfl, HB7.out⟩
    · have HSG := Lib.hid (show sgnF 7 y = true by unfold sgnF; rw [if_neg (by omega), if_neg (by omega)])
      clear hy
      have HB := Lib.hid (Below.refl W.heap.size W)
      go_enter Tryd.func9, Tryd.ntmps9
      obtain ⟨V0, hV0⟩ : ∃ V, V = W.alloc (.cells #[.int .i64 no, .slice A m c, .int .u16 (tn : Int), .int .u8 (y.toNat : Int)] 49) := ⟨_, rfl⟩
      have ha := (Below.refl W.heap.size W).alloc (Nat.le_refl _) (.cells #[.int .i64 no, .slice A m c, .int .u16 (tn : Int), .int .u8 (y.toNat : Int)] 49)
      have hg := heap_alloc_new W (.cells #[.int .i64 no, .slice A m c, .int .u16 (tn : Int), .int .u8 (y.toNat : Int)] 49)
      have nHB := Lib.hid (HB.out.alloc HB.out.size (.cells #[.int .i64 no, .slice A m c, .int .u16 (tn : Int), .int .u8 (y.toNat : Int)] 49))
      rw [← hV0] at ha hg nHB
      have nR0 := Lib.hid ((R0.out.below ha (Nat.le_refl _)).more ha.size)
      obtain ⟨gb, hgb⟩ : ∃ g, g = W.heap.size := ⟨_, rfl⟩
      rw [← hgb] at hg
      have HXGB := Lib.hid hgb
      have GB := Lib.hid hg
      have HV := Lib.hid hV0
      clear ha hg hV0 hgb
      clear HB R0
      have HB := nHB
      have R0 := nR0
      clear nHB nR0
      go_wp2_with fail
      rw [← HV.out]
      (try rw [← HXGB.out])
      clear HV HXGB
      clear GB
      refine (shown5_any _ (HT.out.below HB.out)).mono ?_
      rintro e w1 ⟨rfl, hb⟩
      have nHB := Lib.hid (bel5 HB.out hb HB.out.size)
      have nR0 := Lib.hid ((R0.out.below hb (Nat.le_refl _)).more hb.size)
      clear hb
      clear HB R0
      have HB := nHB
      have R0 := nR0
      clear nHB nR0
      go_wp2_with fail
      refine (CO1.out _ (HT.out.below HB.out)).mono ?_
      rintro e w2 ⟨rfl, hb⟩
      have nHB := Lib.hid (bel5 HB.out hb HB.out.size)
      have nR0 := Lib.hid ((R0.out.below hb (Nat.le_refl _)).more hb.size)
      clear hb
      clear HB R0
      have HB := nHB
      have R0 := nR0
      clear nHB nR0
      obtain ⟨V2, hV2⟩ : ∃ V, V = w2.alloc (.cells #[.int .i64 7, .int .i64 (n : Int)] 25) := ⟨_, rfl⟩
      have ha := (Below.refl w2.heap.size w2).alloc (Nat.le_refl _) (.cells #[.int .i64 7, .int .i64 (n : Int)] 25)
      have hg := heap_alloc_new w2 (.cells #[.int .i64 7, .int .i64 (n : Int)] 25)
      have nHB := Lib.hid (HB.out.alloc HB.out.size (.cells #[.int .i64 7, .int .i64 (n : Int)] 25))
      rw [← hV2] at ha hg nHB
      have nR0 := Lib.hid ((R0.out.below ha (Nat.le_refl _)).more ha.size)
      obtain ⟨g8, hg8⟩ : ∃ g, g = w2.heap.size := ⟨_, rfl⟩
      rw [← hg8] at hg
      have HXG8 := Lib.hid hg8
      have G8 := Lib.hid hg
      have HV := Lib.hid hV2
      clear ha hg hV2 hg8
      clear HB R0
      have HB := nHB
      have R0 := nR0
      clear nHB nR0
      go_wp2_with fail
      rw [← HV.out]
      (try rw [← HXG8.out])
      clear HV HXG8
      refine (CF1.out _ R0.out (HT.out.below HB.out)).mono ?_
      rintro e w3 ⟨rfl, hb⟩
      have nHB := Lib.hid (bel5 HB.out hb HB.out.size)
      have nR0 := Lib.hid ((R0.out.below hb (Nat.le_refl _)).more hb.size)
      have nG8 := Lib.hid (old5 G8.out hb (Nat.le_refl _))
      clear hb
      clear HB R0 G8
      have HB := nHB
      have R0 := nR0
      have G8 := nG8
      clear nHB nR0 nG8
      go_wp2_with (first
        | (at_builtin; refine wpList_appS _ rfl (.tmp 53) (.tmp 54) rfl w3.heap.size _ [] v rfl (by exact Ow.made0 w3 (Nat.le_refl _)) _ _ _ _ rfl HM.out (by exact R0.out.below ((Below.refl w3.heap.size w3).alloc (Nat.le_refl _) _) (Nat.le_refl _)) (by have := HML.out; have := HM.out; show 0 + List.length v ≤ 100000000; omega) (by exact le_alloc (Nat.le_refl _) _) ?_; intro v5 w5 hown5 hgrow5; have hb5 := Ow.below (w0 := w3) (by exact Ow.made0 w3 (Nat.le_refl _)) (by exact (Below.refl w3.heap.size w3).alloc (Nat.le_refl _) _) hgrow5 (by exact le_alloc (Nat.le_refl _) _); have HB5 := Lib.hid hb5; rw [List.nil_append] at hown5; obtain ⟨g, c5, e5, hg5, -⟩ := World.ownsRow.form hown5 (by have := HM.out; have := HM0.out; omega); rw [← HM.out] at e5; subst e5; have HO5 := Lib.hid hown5; have k1 := World.ownsRow.cells hown5 (g := g) rfl q _ (cs_get v q (by have := HM.out; have := HQL.out; omega)); rw [Addr.add_lit, Nat.zero_add] at k1; have k2 := Ow.thaw5 hown5 q; have HGB := Lib.hid hg5; have hp := old5 G8.out (HB5.out.setCell (p := ⟨g, q, none⟩) hg5 (.int .u8 (y.toNat : Int))) (Nat.le_refl _); obtain ⟨x0, x1⟩ := cells2 hp; clear hown5 hgrow5 hb5 hg5 hp))
      have hs6 := HO5.out.set5 q y
      have hb6 := HB5.out.setCell (p := ⟨g, q, none⟩) HGB.out (.int .u8 (y.toNat : Int))
      have HB6 := Lib.hid (bel5 HB.out hb6 HB.out.size)
      generalize w5.setCell ⟨g, q, none⟩ (.int .u8 (y.toNat : Int)) = w6 at *
      have hr6 : Rd w6 w6.heap.size (some ⟨g, 0, none⟩) (v.set q y) := by
        obtain ⟨A', c', e', -, -, hr'⟩ := hs6.form
        injection e' with e1 e2 e3
        rw [e1]
        exact hr'
      have HR6 := Lib.hid hr6
      clear hs6 hb6 hr6 x0 x1 k1 k2 HO5 HB5
      refine (CF2.out _ _ _ HR6.out (HT.out.below HB6.out)).mono ?_
      rintro e w7 ⟨rfl, hb⟩
      have HB7 := Lib.hid (bel5 HB6.out hb HB6.out.size)
      clear hb
      go_wp2_with fail
      go_ret
      exact ⟨by rw [HSG.out]; rfl, HB7.out⟩
end Go.Proofs.YtecdmdgpmbgaaaaDoor
