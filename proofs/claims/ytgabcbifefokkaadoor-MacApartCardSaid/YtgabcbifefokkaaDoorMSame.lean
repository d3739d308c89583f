
/- MacSame's walk. -/
import Derived.Test.YtgabcbifefokkaaDoorMTells
import Derived.Test.YtgabcbifefokkaaDoorOpenH
namespace Go.Proofs.YtgabcbifefokkaaDoor
open Go.RowKit

theorem ne_snoc (l : List UInt8) (x : UInt8) : ¬ l = l ++ [x] := fun h => by
  have := congrArg List.length h
  simp at this
theorem mac_no1 (v1 v2 : Value) (la lb : List UInt8) (w : World) (ha : Sl w v1 la) (hb : Sl w v2 lb) (hne : ¬ la = lb) (h1 : la.length ≤ 1000000) (h2 : lb.length ≤ 1000000) :
    Calls Tryd.prog 18 #[v1, v2] w fun e w' => e = .returned (.bool false) ∧ w = w' := by
  have h := macSame_sl v1 v2 la lb w ha hb h1 h2
  rw [decide_eq_false hne] at h
  exact h
theorem mac_yes (v1 v2 : Value) (l : List UInt8) (w : World) (ha : Sl w v1 l) (hb : Sl w v2 l) (h1 : l.length ≤ 1000000) :
    Calls Tryd.prog 18 #[v1, v2] w fun e w' => e = .returned (.bool true) ∧ w = w' := by
  have h := macSame_sl v1 v2 l l w ha hb h1 h1
  rw [decide_eq_true rfl] at h
  exact h
theorem Ow.set {w : World} {base g n cap : Nat} {l : List UInt8} (h : Ow w base (.slice (some ⟨g, 0, none⟩) n cap) l) (i : Nat) (z : UInt8) :
    Ow (w.setCell ⟨g, i, none⟩ (.int .u8 (z.toNat : Int))) base (.slice (some ⟨g, 0, none⟩) n cap) (l.set i z) := by
  refine ⟨by simp [cs], ?_⟩
  rcases h.2 with ⟨e, _⟩ | ⟨g', cap', cur, e, hb, hg, hn, hcap, hsz, htake⟩
  · cases e
  · cases e
    refine .inr ⟨g, cap, cur.setIfInBounds i (.int .u8 (z.toNat : Int)), by rw [List.length_set], hb, ?_, by rw [List.length_set]; exact hn, hcap, by rw [Array.size_setIfInBounds]; exact hsz, ?_⟩
    · exact heap_setCell_same w g i _ _ _ hg
    · rw [List.length_set, Array.toList_setIfInBounds, List.take_set, htake]
      simp [cs, List.map_set]
theorem Ow.at_ {w : World} {base g n cap : Nat} {l : List UInt8} (h : Ow w base (.slice (some ⟨g, 0, none⟩) n cap) l) (i : Nat) (hi : i < l.length) : w.cell? ⟨g, i, none⟩ = some (.int .u8 ((l.getD i 0).toNat : Int)) ∧ w.frozen? ⟨g, i, none⟩ = false := by
  constructor
  · have := World.ownsRow.cells h (g := g) rfl i _ (cs_get l i hi)
    rw [Addr.add_lit, Nat.zero_add] at this
    rw [this, getD_at l i hi]
  · rcases h.2 with ⟨e, _⟩ | ⟨g', cap', cur, e, hb, hg, _⟩
    · cases e
    · cases e
      exact frozen_of_row w g i _ _ hg
theorem set_xor (l : List UInt8) (i : Nat) (hi : i < l.length) (x : UInt8) : l = l.set i (l.getD i 0 ^^^ x) ↔ x = 0 := by
  rw [getD_at l i hi]
  constructor
  · intro h
    have h2 : l[i] = (l.set i (l[i] ^^^ x))[i]'(by rw [List.length_set]; exact hi) := by congr 1
    rw [List.getElem_set_self] at h2
    have h3 := congrArg (fun y => l[i] ^^^ y) h2
    simp only [← UInt8.xor_assoc, UInt8.xor_self, UInt8.zero_xor] at h3
    exact h3.symm
  · rintro rfl
    rw [UInt8.xor_zero, List.set_getElem_self]
theorem macSame_n (A B : Option Addr) (la lb : List UInt8) (ca cb n m : Nat) (w : World) (b : Bool) (hn : n = la.length) (hm : m = lb.length) (hb : decide (la = lb) = b) (hla : la.length ≤ 1000000) (hlb : lb.length ≤ 1000000) (h1 : Rd w w.heap.size A la) (h2 : Rd w w.heap.size B lb) :
    Calls Tryd.prog 18 #[.slice A n ca, .slice B m cb] w fun e w' => e = .returned (.bool b) ∧ w = w' := by
  subst hn hm hb
  exact macSame_any A B la lb ca cb _ _ w h1 h2 hla hlb
theorem Ow.rd {w : World} {base g n cap : Nat} {l : List UInt8} (h : Ow w base (.slice (some ⟨g, 0, none⟩) n cap) l) : Rd w w.heap.size (some ⟨g, 0, none⟩) l := by
  obtain ⟨A, c, e, _, _, hr⟩ := h.form
  cases e
  exact hr
theorem newsU (w : World) (x : UInt8) : ∀ j u, (cs [x])[j]? = some u → (w.alloc (.cells #[.int .u8 (x.toNat : Int)] 5)).cell? ((⟨w.heap.size, 0, none⟩ : Addr).add j) = some u := cell_one_new _ _ _

set_option maxRecDepth 100000 in
set_option maxHeartbeats 4000000 in
theorem macSame_walk (A : Option Addr) (l : List UInt8) (c : Nat) (t y : Int) (W : World) (hc : l.length ≤ c) (hr : Rd W W.heap.size A l) (ht : 0 ≤ t ∧ t ≤ 65535) (hy : 0 ≤ y ∧ y ≤ 255) (hk : Ks W) :
    Calls Tryd.prog 8 #[.slice A l.length c, .int .u16 t, .int .u8 y] W fun e W' => e = .returned (.bool true) ∧ Below W.heap.size W W' := by
  have RA := Lib.hid (fun w (h : Below W.heap.size W w) => (hr.below h (Nat.le_refl _)).more h.size)
  have KB := Lib.hid (fun w (h : Below W.heap.size W w) => Ks.call hk h)
  obtain ⟨x, rfl⟩ : ∃ x : UInt8, y = (x.toNat : Int) := ⟨UInt8.ofNat y.toNat, by rw [UInt8.toNat_ofNat']; omega⟩
  obtain ⟨T, rfl⟩ := Int.eq_ofNat_of_zero_le ht.1
  obtain ⟨n, hn⟩ : ∃ n, n = l.length := ⟨_, rfl⟩
  have HN := Lib.hid hn
  by_cases h300 : 300 < n
  · rw [← hn]
    have hi : (300 : Int) < (n : Int) := by omega
    clear hr hk hn hc ht hy
    go_enter Tryd.func8, Tryd.ntmps8
    go_wp2_with fail
    refine (shown3_any _ (KB.out _ (Below.refl _ _))).mono ?_
    rintro e W1 ⟨rfl, hb1⟩
    have HB1 := Lib.hid hb1
    clear hb1
    go_wp2
    go_ret
    exact ⟨rfl, HB1.out⟩
  · have hi : ¬ (300 : Int) < (n : Int) := by omega
    have hL : l.length ≤ 1000000 := by omega
    have hL1 : (l ++ [x]).length = n + 1 := by rw [List.length_append, ← hn]; rfl
    have HL1 := Lib.hid hL1
    have HNS := Lib.hid (show n ≤ 300 by omega)
    have C1 := Lib.hid (fun B' cb w h1 h2 => macSame_n A B' l (l ++ [x]) c cb n (n + 1) w false hn hL1.symm (decide_eq_false (ne_snoc l x)) hL (by omega) h1 h2)
    have C2 := Lib.hid (fun B' cb w h1 h2 => macSame_n B' A (l ++ [x]) l cb c (n + 1) n w false hL1.symm hn (decide_eq_false (fun h => ne_snoc l x h.symm)) (by omega) hL h1 h2)
    have C3 := Lib.hid (fun B' cb w h1 h2 => macSame_n A B' l l c cb n n w true hn hn (decide_eq_true rfl) hL hL h1 h2)
    rw [← hn]
    clear hr hk hc hy hL1 hn
    go_enter Tryd.func8, Tryd.ntmps8
    go_wp2_with fail
    refine (shown3_any _ (KB.out _ (Below.refl _ _))).mono ?_
    rintro e W1 ⟨rfl, hb1⟩
    have HB1 := Lib.hid hb1
    have hsz1 := hb1.size
    clear hb1
    go_wp2_with (first
      | (at_builtin; refine wpList_appS (W1.alloc (.cells #[] 5)) rfl (.tmp 16) (.tmp 17) rfl W.heap.size _ [] l rfl (by exact Ow.made0 W1 hsz1) A n c _ rfl HN.out (by exact RA.out _ (HB1.out.alloc hsz1 _)) (by simp only [List.length_nil]; have := HN.out; have := HNS.out; omega) (by exact le_alloc hsz1 _) ?_; intro v2 w2 hown2 hgrow2; have HB2 := Lib.hid (Ow.below (w0 := W) (by exact Ow.made0 W1 hsz1) (by exact HB1.out.alloc hsz1 _) hgrow2 (by exact le_alloc hsz1 _)); rw [List.nil_append] at hown2; have HO2 := Lib.hid hown2; have hsz2 := HB2.out.size; clear hown2 hgrow2)
      | (at_builtin; (refine wpList_app rfl _ (.tmp 18) (.tmp 20) rfl W.heap.size _ _ [x] rfl (by exact HO2.out.alloc _) ⟨_, 0, none⟩ 1 _ rfl rfl (by exact newsU _ x) (by simp only [List.length_cons, List.length_nil]; have := HN.out; have := HNS.out; omega) (by exact le_alloc hsz2 _) ?_); intro v3 w3 hown3 hgrow3; have HB3 := Lib.hid (Ow.below (w0 := W) (by exact HO2.out.alloc _) (by exact HB2.out.alloc hsz2 _) hgrow3 (by exact le_alloc hsz2 _)); obtain ⟨A3, c3, e3, h31, h32, h33⟩ := hown3.form; rw [HL1.out] at e3; subst e3; have HR3 := Lib.hid h33; have hsz3 := HB3.out.size; clear hown3 hgrow3 h31 h32 h33))
    refine (C1.out A3 c3 _ (RA.out _ HB3.out) HR3.out).mono ?_
    rintro e w4 ⟨rfl, rfl⟩
    go_wp2_with fail
    refine (C2.out A3 c3 _ HR3.out (RA.out _ HB3.out)).mono ?_
    rintro e w4 ⟨rfl, rfl⟩
    clear C1 C2 HO2 HB2 hsz2 HL1
    go_wp2_with (at_builtin; refine wpList_appS (w3.alloc (.cells #[] 5)) rfl (.tmp 32) (.tmp 33) rfl W.heap.size _ [] l rfl (by exact Ow.made0 w3 hsz3) A n c _ rfl HN.out (by exact RA.out _ (HB3.out.alloc hsz3 _)) (by simp only [List.length_nil]; have := HN.out; have := HNS.out; omega) (by exact le_alloc hsz3 _) ?_; intro v4 w4 hown4 hgrow4; have HB4 := Lib.hid (Ow.below (w0 := W) (by exact Ow.made0 w3 hsz3) (by exact HB3.out.alloc hsz3 _) hgrow4 (by exact le_alloc hsz3 _)); rw [List.nil_append] at hown4; obtain ⟨A4, c4, e4, h41, h42, h43⟩ := hown4.form; rw [← HN.out] at e4; subst e4; have HR4 := Lib.hid h43; have hsz4 := HB4.out.size; clear hown4 hgrow4 h41 h42 h43)
    refine (C3.out A4 c4 _ (RA.out _ HB4.out) HR4.out).mono ?_
    rintro e w5 ⟨rfl, rfl⟩
    clear C3 HR4 HR3 HB3 hsz3
    by_cases h0 : n = 0
    · subst h0
      have hle : l = [] := List.eq_nil_of_length_eq_zero HN.out.symm
      have CZ := Lib.hid (fun w h2 => macSame_n none A [] l 0 c 0 0 w true rfl HN.out (decide_eq_true hle.symm) (by simp) hL Rd.nil h2)
      clear hle
      go_wp2_with fail
      refine (CZ.out _ (RA.out _ HB4.out)).mono ?_
      rintro e w5 ⟨rfl, rfl⟩
      go_wp2
      go_ret
      exact ⟨rfl, HB4.out⟩
    · have h0i : ¬ (n : Int) = 0 := by omega
      obtain ⟨j, hj⟩ : ∃ j, j = T % n := ⟨_, rfl⟩
      have hjn : j < n := by rw [hj]; exact Nat.mod_lt _ (by omega)
      have HJ := Lib.hid (show j < l.length by rw [← HN.out]; exact hjn)
      have hj1 : (T : Int).tmod (n : Int) = (j : Int) := by rw [Int.tmod_eq_emod_of_nonneg (by omega), hj]; rfl
      have hj2 : (T : Int) % (n : Int) = (j : Int) := by rw [hj]; rfl
      have hj3 : (j : Int) < (n : Int) := by omega
      have hj4 : (0 : Int) ≤ (j : Int) := Int.natCast_nonneg _
      have ht2 : (T : Int) ≤ 65535 := ht.2
      have hX := set_xor l j HJ.out x
      obtain ⟨y, hyy⟩ : ∃ y, y = l.getD j 0 := ⟨_, rfl⟩
      have HY := Lib.hid hyy
      rw [← hyy] at hX
      have HLS := Lib.hid (show n = (l.set j (y ^^^ x)).length by rw [List.length_set]; exact HN.out)
      have HX := Lib.hid hX
      clear hj hyy hX
      go_wp2_with (at_builtin; refine wpList_appS (w4.alloc (.cells #[] 5)) rfl (.tmp 46) (.tmp 47) rfl W.heap.size _ [] l rfl (by exact Ow.made0 w4 hsz4) A n c _ rfl HN.out (by exact RA.out _ (HB4.out.alloc hsz4 _)) (by simp only [List.length_nil]; have := HN.out; have := HNS.out; omega) (by exact le_alloc hsz4 _) ?_; intro v5 w5 hown5 hgrow5; have HB5 := Lib.hid (Ow.below (w0 := W) (by exact Ow.made0 w4 hsz4) (by exact HB4.out.alloc hsz4 _) hgrow5 (by exact le_alloc hsz4 _)); rw [List.nil_append] at hown5; obtain ⟨g, c5, e5, hg5, -⟩ := World.ownsRow.form hown5 (by have := HN.out; omega); rw [← HN.out] at e5; subst e5; have HO5 := Lib.hid hown5; obtain ⟨k1, k2⟩ := Ow.at_ hown5 j HJ.out; rw [← HY.out] at k1; have HGB := Lib.hid hg5; clear hown5 hgrow5 hg5)
      have hs6 := HO5.out.set j (y ^^^ x)
      rw [← b_xor] at hs6
      have hb6 := HB5.out.setCell (p := ⟨g, j, none⟩) HGB.out (.int .u8 (bits .xor .u8 (y.toNat : Int) (x.toNat : Int)))
      generalize w5.setCell ⟨g, j, none⟩ (.int .u8 (bits .xor .u8 (y.toNat : Int) (x.toNat : Int))) = w6 at *
      have HR6 := Lib.hid hs6.rd
      have HB6 := Lib.hid hb6
      clear hs6 hb6 k1 k2 HB5 HO5
      by_cases hx : x = 0
      · have hxz : (x.toNat : Int) = 0 := by rw [hx]; rfl
        have D1 := Lib.hid (fun w h1 h2 => macSame_n A (some ⟨g, 0, none⟩) l (l.set j (y ^^^ x)) c c5 n n w true HN.out HLS.out (decide_eq_true (HX.out.2 hx)) hL (by rw [List.length_set]; exact hL) h1 h2)
        have D2 := Lib.hid (fun w h1 h2 => macSame_n (some ⟨g, 0, none⟩) A (l.set j (y ^^^ x)) l c5 c n n w true HLS.out HN.out (decide_eq_true (HX.out.2 hx).symm) (by rw [List.length_set]; exact hL) hL h1 h2)
        clear hx
        refine (D1.out _ (RA.out _ HB6.out) HR6.out).mono ?_
        rintro e w7 ⟨rfl, rfl⟩
        go_wp2_with fail
        refine (D2.out _ HR6.out (RA.out _ HB6.out)).mono ?_
        rintro e w7 ⟨rfl, rfl⟩
        go_wp2
        go_ret
        exact ⟨rfl, HB6.out⟩
      · have hxz : ((x.toNat : Int) == 0) = false := beq_eq_false_iff_ne.2 (fun h => hx (UInt8.toNat_inj.1 (by show x.toNat = 0; omega)))
        have D1 := Lib.hid (fun w h1 h2 => macSame_n A (some ⟨g, 0, none⟩) l (l.set j (y ^^^ x)) c c5 n n w false HN.out HLS.out (decide_eq_false (fun h => hx (HX.out.1 h))) hL (by rw [List.length_set]; exact hL) h1 h2)
        have D2 := Lib.hid (fun w h1 h2 => macSame_n (some ⟨g, 0, none⟩) A (l.set j (y ^^^ x)) l c5 c n n w false HLS.out HN.out (decide_eq_false (fun h => hx (HX.out.1 h.symm))) (by rw [List.length_set]; exact hL) hL h1 h2)
        clear hx
        refine (D1.out _ (RA.out _ HB6.out) HR6.out).mono ?_
        rintro e w7 ⟨rfl, rfl⟩
        go_wp2_with fail
        refine (D2.out _ HR6.out (RA.out _ HB6.out)).mono ?_
        rintro e w7 ⟨rfl, rfl⟩
        go_wp2
        go_ret
        exact ⟨rfl, HB6.out⟩
end Go.Proofs.YtgabcbifefokkaaDoor
