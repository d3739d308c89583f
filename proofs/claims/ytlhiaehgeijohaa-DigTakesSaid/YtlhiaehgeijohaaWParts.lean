/- DigParts' walk -/
import Derived.Test.YtlhiaehgeijohaaWOrder
namespace Go.Proofs.Ytlhiaehgeijohaa
open Go.RowKit

theorem digL_len {n w : Int} (h : digE n w = 0) : (digL n w).length = w.toNat := by
  unfold digL
  rw [if_pos (ok_of_digE h), dgL_length]
theorem digL_fig {n w : Int} (h : digE n w = 0) : allFig (digL n w) = true := by
  unfold digL
  rw [if_pos (ok_of_digE h), dgL_fig]

theorem str_append (a b : List UInt8) : (⟨a.toArray⟩ : ByteArray) ++ ⟨b.toArray⟩ = ⟨(a ++ b).toArray⟩ := by
  apply ByteArray.ext
  simp

theorem bcd_of (d p : List UInt8) (hL : bcdL d = p) (hE : bcdE d = 0) (hs : d.length ≤ 1000000) (W : World) :
    Calls Try.prog 16 #[.string ⟨d.toArray⟩] W fun e W' => Ans W' e p p.length (.int .i64 0) ∧ Below W.heap.size W W' := by
  have h := bcd_all ⟨d.toArray⟩ W (by simpa [ByteArray.size] using hs)
  rw [show (⟨d.toArray⟩ : ByteArray).data.toList = d from rfl, hL, hE] at h
  exact h

set_option maxHeartbeats 1000000 in
theorem digParts_walk (m n w : Int) (W : World) (hm0 : -9223372036854775808 ≤ m ∧ m ≤ 9223372036854775807) (hn0 : -9223372036854775808 ≤ n ∧ n ≤ 9223372036854775807) (hw : 0 ≤ w ∧ w ≤ 255) :
    Calls Try.prog 10 #[.int .i64 m, .int .i64 n, .int .u8 w] W fun e W' => e = .returned (.bool true) ∧ Below W.heap.size W W' := by
  obtain ⟨q, hq⟩ : ∃ q : Int, q = 2 * (1 + w % 8) := ⟨_, rfl⟩
  have C1 := Lib.hid (fun W => digits_all m q W hm0.2)
  have C2 := Lib.hid (fun W => digits_all n q W hn0.2)
  have l1 := Lib.hid (@digL_len m q)
  have l2 := Lib.hid (@digL_len n q)
  have f1 := Lib.hid (@digL_fig m q)
  have f2 := Lib.hid (@digL_fig n q)
  have hq1 : 2 ≤ q.toNat := by omega
  have hq2 : q.toNat ≤ 16 := by omega
  have hq3 : q.toNat % 2 = 0 := by omega
  have HQ := Lib.hid hq3
  have e1 : 2 * (1 + w % 8) = q := hq.symm
  clear hq hm0 hn0 hq3
  generalize digL m q = d1 at *
  generalize digL n q = d2 at *
  generalize digE m q = e1 at *
  generalize digE n q = e2 at *
  go_enter Try.func10, Try.ntmps10
  go_wp2_with fail
  refine (shown_any _).mono ?_
  rintro e W1 ⟨rfl, hb1⟩
  have HB1 := Lib.hid hb1
  clear hb1
  go_wp2_with fail
  refine (C1.out _).mono ?_
  rintro e W2 ⟨rfl, hb2⟩
  have HB2 := Lib.hid (HB1.out.trans (hb2.mono HB1.out.size))
  clear hb2 HB1
  go_wp2_with fail
  refine (C2.out _).mono ?_
  rintro e W3 ⟨rfl, hb3⟩
  have HB3 := Lib.hid (HB2.out.trans (hb3.mono HB2.out.size))
  clear hb3 HB2
  have z : ∀ e : Int, e = 0 ∨ ((e == 0) = false ∧ (e != 0) = true) := fun e => by
    by_cases h : e = 0
    · exact .inl h
    · right; simp [h]
  rcases z e1 with rfl | ⟨q1, q1'⟩
  · rcases z e2 with rfl | ⟨q2, q2'⟩
    · clear z
      have g1 := l1.out rfl
      have g2 := l2.out rfl
      have g3 := f1.out rfl
      have g4 := f2.out rfl
      have G1 := Lib.hid g1
      have G2 := Lib.hid g2
      have G3 := Lib.hid g3
      have G4 := Lib.hid g4
      have b1 : d1.length ≤ 16 := by omega
      have b2 : d2.length ≤ 16 := by omega
      have K1 : d1.length % 2 = 0 := by rw [g1]; exact HQ.out
      have K2 : d2.length % 2 = 0 := by rw [g2]; exact HQ.out
      have D1 := Lib.hid (fun W => bcd_of d1 _ (by unfold bcdL; rw [if_pos g3]) (by unfold bcdE; rw [if_pos g3]) (by omega) W)
      have D2 := Lib.hid (fun W => bcd_of d2 _ (by unfold bcdL; rw [if_pos g4]) (by unfold bcdE; rw [if_pos g4]) (by omega) W)
      have a3 : allFig (d1 ++ d2) = true := by unfold allFig at g3 g4 ⊢; rw [List.all_append, g3, g4]; rfl
      have a4 : allFig (55 :: d1) = true := by unfold allFig at g3 ⊢; rw [List.all_cons, g3]; rfl
      have D3 := Lib.hid (fun W => bcd_of (d1 ++ d2) _ (by unfold bcdL; rw [if_pos a3, packL_append d1 d2 K1 K2]) (by unfold bcdE; rw [if_pos a3]) (by rw [List.length_append]; omega) W)
      have D4 := Lib.hid (fun W => bcd_of (55 :: d1) _ (by unfold bcdL; rw [if_pos a4, packL_seven d1 K1]) (by unfold bcdE; rw [if_pos a4]) (by rw [List.length_cons]; omega) W)
      have y1 : (packL gFig d1).length ≤ 9 := by rw [packL_length]; omega
      have y2 : (packL gFig d2).length ≤ 9 := by rw [packL_length]; omega
      generalize packL gFig d1 = p1 at *
      generalize packL gFig d2 = p2 at *
      clear a3 a4
      clear g1 g2 g3 g4 K1 K2
      go_wp2_with fail
      refine (D1.out _).mono ?_
      rintro e W4 ⟨⟨A1, c1, rfl, hc1, hcc1, hr1⟩, hb4⟩
      have HB4 := Lib.hid (HB3.out.trans (hb4.mono HB3.out.size))
      have HR14 := Lib.hid hr1
      clear hb4 HB3 hr1
      go_wp2_with fail
      refine (D2.out _).mono ?_
      rintro e W5 ⟨⟨A2, c2, rfl, hc2, hcc2, hr2⟩, hb5⟩
      have HB5 := Lib.hid (HB4.out.trans (hb5.mono HB4.out.size))
      have HR15 := Lib.hid ((HR14.out.below hb5 (Nat.le_refl _)).more hb5.size)
      have HR25 := Lib.hid hr2
      clear hb5 HB4 hr2 HR14
      go_wp2_with fail
      rw [str_append d1 d2]
      refine (D3.out _).mono ?_
      rintro e W6 ⟨⟨A3, c3, rfl, hc3, hcc3, hr3⟩, hb6⟩
      have HB6 := Lib.hid (HB5.out.trans (hb6.mono HB5.out.size))
      have HR16 := Lib.hid ((HR15.out.below hb6 (Nat.le_refl _)).more hb6.size)
      have HR26 := Lib.hid ((HR25.out.below hb6 (Nat.le_refl _)).more hb6.size)
      have HR36 := Lib.hid hr3
      clear hb6 HB5 hr3 HR15 HR25
      go_wp2_with fail
      rw [show (⟨#[55]⟩ : ByteArray) ++ ⟨d1.toArray⟩ = ⟨(55 :: d1).toArray⟩ from str_append [55] d1]
      refine (D4.out _).mono ?_
      rintro e W7 ⟨⟨A4, c4, rfl, hc4, hcc4, hr4⟩, hb7⟩
      have HB7 := Lib.hid (HB6.out.trans (hb7.mono HB6.out.size))
      have HR17 := Lib.hid ((HR16.out.below hb7 (Nat.le_refl _)).more hb7.size)
      have HR27 := Lib.hid ((HR26.out.below hb7 (Nat.le_refl _)).more hb7.size)
      have HR37 := Lib.hid ((HR36.out.below hb7 (Nat.le_refl _)).more hb7.size)
      have HR47 := Lib.hid hr4
      have hz7 := HB7.out.size
      clear hb7 HB6 hr4 HR16 HR26 HR36 D1 D2 D3 D4 C1 C2 l1 l2 f1 f2 G1 G2 G3 G4
      go_wp2_with (first | (at_builtin; refine wpList_appS _ rfl (.tmp 88) (.tmp 89) rfl W7.heap.size _ [] p1 rfl (by exact Ow.made0 _ (Nat.le_refl _)) _ _ _ W7.heap.size rfl rfl (by exact HR17.out.keep fun p hp => World.cell?_alloc_lt W7 _ p hp) (by simp only [List.length_nil]; omega) (by exact le_alloc (Nat.le_refl _) _) ?_; intro v8 W8 hown8 hgrow8; have hb8 := Ow.below (w0 := W7) (by exact Ow.made0 _ (Nat.le_refl _)) (by exact (Below.refl _ _).alloc (Nat.le_refl _) _) hgrow8 (by exact le_alloc (Nat.le_refl _) _); have HB8 := Lib.hid hb8; have HO8 := Lib.hid hown8; clear hb8 hown8 hgrow8) | (at_builtin; refine wpList_appS _ rfl (.tmp 90) (.tmp 91) rfl W7.heap.size _ ([] ++ p1) p2 rfl HO8.out _ _ _ W7.heap.size rfl rfl (HR27.out.below HB8.out (Nat.le_refl _)) (by simp only [List.nil_append]; omega) HB8.out.size ?_; intro v9 W9 hown9 hgrow9; have HB9 := Lib.hid (Ow.below HO8.out HB8.out hgrow9 HB8.out.size); have HO9 := Lib.hid hown9; clear hown9 hgrow9))
      have HR39 := Lib.hid (HR37.out.below HB9.out (Nat.le_refl _))
      have HR49 := Lib.hid ((HR47.out.below HB9.out (Nat.le_refl _)).more HB9.out.size)
      have HR19 := Lib.hid ((HR17.out.below HB9.out (Nat.le_refl _)).more HB9.out.size)
      have hz9 := HB9.out.size
      refine (same_sl _ v9 (p1 ++ p2) _ W9 ⟨A3, c3, by rw [List.length_append], hc3, hcc3, HR39.out.more hz9⟩ HO9.out.sl).mono ?_
      rintro e W10 ⟨rfl, rfl⟩
      rw [show decide (p1 ++ p2 = [] ++ p1 ++ p2) = true by simp]
      go_wp2_with (first | (at_builtin; refine wpList_appS _ rfl (.tmp 97) (.tmp 98) rfl W9.heap.size _ [7] p1 rfl (by exact Ow.made1 _ (Nat.le_refl _) 7) _ _ _ W9.heap.size rfl rfl (by exact HR19.out.keep fun p hp => World.cell?_alloc_lt W9 _ p hp) (by simp only [List.length_cons, List.length_nil]; omega) (by exact le_alloc (Nat.le_refl _) _) ?_; intro v8 W10 hown8 hgrow8; have hb8 := Ow.below (w0 := W9) (by exact Ow.made1 _ (Nat.le_refl _) 7) (by exact (Below.refl _ _).alloc (Nat.le_refl _) _) hgrow8 (by exact le_alloc (Nat.le_refl _) _); have HB10 := Lib.hid hb8; have HO10 := Lib.hid hown8; clear hb8 hown8 hgrow8))
      refine (same_sl _ v8 (7 :: p1) _ W10 ⟨A4, c4, by rw [List.length_cons], hc4, hcc4, (HR49.out.below HB10.out (Nat.le_refl _)).more HB10.out.size⟩ HO10.out.sl).mono ?_
      rintro e W11 ⟨rfl, rfl⟩
      rw [show decide (7 :: p1 = [7] ++ p1) = true by simp]
      go_wp2
      go_ret
      exact ⟨rfl, (HB7.out.trans (HB9.out.mono HB7.out.size)).trans (HB10.out.mono (Nat.le_trans HB7.out.size HB9.out.size))⟩
    · clear z
      go_wp2
      go_ret
      exact ⟨rfl, HB3.out⟩
  · clear z
    go_wp2
    go_ret
    exact ⟨rfl, HB3.out⟩
end Go.Proofs.Ytlhiaehgeijohaa
