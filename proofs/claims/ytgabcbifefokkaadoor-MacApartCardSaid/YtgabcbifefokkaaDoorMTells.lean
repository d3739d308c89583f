/- MacTells' walk. -/
import Derived.Test.YtgabcbifefokkaaDoorShown3
import Derived.Test.YtgabcbifefokkaaDoorMacE
namespace Go.Proofs.YtgabcbifefokkaaDoor
open Go.RowKit

theorem slOf {W : World} {A : Option Addr} {l : List UInt8} {n c : Nat} (hl : l.length = n) (h1 : n ≤ c) (h2 : c ≤ 9223372036854775807) (hr : Rd W W.heap.size A l) : Sl W (.slice A n c) l := by
  subst hl
  exact ⟨A, c, rfl, h1, h2, hr⟩
/-- the document's Same of two slices that read alike -/
theorem same_yes (v1 v2 : Value) (l : List UInt8) (w : World) (ha : Sl w v1 l) (hb : Sl w v2 l) :
    Calls Tryd.prog 11 #[v1, v2] w fun e w' => e = .returned (.bool true) ∧ w = w' := by
  have h := same_sl v1 v2 l l w ha hb
  rw [decide_eq_true rfl] at h
  exact h
theorem Sl.of_k {W : World} {g : Nat} {l : List UInt8} (hl : l.length = 64) (h : W.heap[g]? = some (.cells (cs l).toArray 5 (0, 0))) : Sl W (.slice (some ⟨g, 0, none⟩) 64 64) l := slOf hl (Nat.le_refl _) (by omega) (Rd.block h)

set_option maxRecDepth 100000 in
set_option maxHeartbeats 2000000 in
theorem macTells_walk (A : Option Addr) (k : List UInt8) (c : Nat) (B : Option Addr) (b : List UInt8) (d : Nat) (W : World) (hc : k.length ≤ c) (hr : Rd W W.heap.size A k) (hd : b.length ≤ d) (hs : Rd W W.heap.size B b) (hk : Ks W) :
    Calls Tryd.prog 3 #[.slice A k.length c, .slice B b.length d] W fun e W' => e = .returned (.bool true) ∧ Below W.heap.size W W' := by
  have RA := Lib.hid (fun w (h : Below W.heap.size W w) => (hr.below h (Nat.le_refl _)).more h.size)
  have RB := Lib.hid (fun w (h : Below W.heap.size W w) => (hs.below h (Nat.le_refl _)).more h.size)
  have KB := Lib.hid (fun w (h : Below W.heap.size W w) => Ks.call hk h)
  obtain ⟨n, hn⟩ : ∃ n, n = k.length := ⟨_, rfl⟩
  obtain ⟨m, hm⟩ : ∃ m, m = b.length := ⟨_, rfl⟩
  by_cases hbig : 300 < n ∨ 300 < m
  · rw [← hn, ← hm]
    by_cases hn300 : 300 < n
    · have hi : (300 : Int) < (n : Int) := by omega
      clear hr hs hk hn hm hc hd hbig
      go_enter Tryd.func3, Tryd.ntmps3
      go_wp2_with fail
      refine (shown3_any _ (KB.out _ (Below.refl _ _))).mono ?_
      rintro e W1 ⟨rfl, hb1⟩
      have HB1 := Lib.hid hb1
      clear hb1
      go_wp2
      go_ret
      exact ⟨rfl, HB1.out⟩
    · have hi : ¬ (300 : Int) < (n : Int) := by omega
      have hi2 : (300 : Int) < (m : Int) := by omega
      clear hr hs hk hn hm hc hd hbig
      go_enter Tryd.func3, Tryd.ntmps3
      go_wp2_with fail
      refine (shown3_any _ (KB.out _ (Below.refl _ _))).mono ?_
      rintro e W1 ⟨rfl, hb1⟩
      have HB1 := Lib.hid hb1
      clear hb1
      go_wp2
      go_ret
      exact ⟨rfl, HB1.out⟩
  · have C1 := Lib.hid (fun w h1 h2 => macBlock_any A k c w (by omega) hc h1 h2)
    have C2 := Lib.hid (fun w h1 => refBlockK_any A k c w (by omega) hc h1)
    have C3 := Lib.hid (fun w h1 h2 h3 => tag_any A B k b c d w (by omega) (by omega) hc hd h1 h2 h3)
    have C4 := Lib.hid (fun w h1 h2 => refTag_any A B k b c d w (by omega) (by omega) hc h1 h2)
    have C5 := Lib.hid (fun w h1 h2 => kcv_any A k c w (by omega) hc h1 h2)
    have C6 := Lib.hid (fun w h1 => refKcv_any A k c w (by omega) hc h1)
    have C7 := Lib.hid (fun w h1 h2 => macSame_any A B k b c d w.heap.size w.heap.size w h1 h2 (by omega) (by omega))
    have C8 := Lib.hid (fun w h1 h2 => same_any A B k b c d w.heap.size w.heap.size w h1 h2)
    have L1 := Lib.hid (blkK_length k)
    have L2 := Lib.hid (tagF_length k b)
    have L3 := Lib.hid (kcvF_length k)
    rw [← hn, ← hm]
    rw [← hn] at C1 C2 C3 C4 C5 C6 C7 C8
    rw [← hm] at C3 C4 C7 C8
    generalize blkK k = X1 at *
    generalize tagF k b = X2 at *
    generalize kcvF k = X3 at *
    generalize decide (k = b) = X4 at *
    have hi : ¬ (300 : Int) < (n : Int) := by omega
    have hi2 : ¬ (300 : Int) < (m : Int) := by omega
    clear hr hs hk hn hm hc hd hbig
    go_enter Tryd.func3, Tryd.ntmps3
    go_wp2_with fail
    refine (shown3_any _ (KB.out _ (Below.refl _ _))).mono ?_
    rintro e W1 ⟨rfl, hb1⟩
    have HB1 := Lib.hid hb1
    clear hb1
    go_wp2_with fail
    refine (C1.out _ (RA.out _ HB1.out) (KB.out _ HB1.out)).mono ?_
    rintro e W2 ⟨⟨g2, rfl, h1, h2⟩, hb2⟩
    have HB2 := Lib.hid (bel_call HB1.out hb2 HB1.out.size)
    have HG2 := Lib.hid h1
    clear h1 h2 hb2 HB1
    go_wp2_with fail
    refine (C2.out _ (RA.out _ HB2.out)).mono ?_
    rintro e W3 ⟨⟨v3, rfl, ho3⟩, hb3⟩
    have HB3 := Lib.hid (bel_call HB2.out hb3 HB2.out.size)
    have HS1 := Lib.hid (Sl.of_k L1.out (old_below HG2.out hb3 (Nat.le_refl _)))
    have HS2 := Lib.hid ho3.sl
    clear ho3 hb3 HB2 HG2
    go_wp2_with fail
    refine (same_yes _ _ X1 _ HS1.out HS2.out).mono ?_
    rintro e W4 ⟨rfl, rfl⟩
    clear HS1 HS2
    go_wp2_with fail
    refine (C3.out _ (RA.out _ HB3.out) (RB.out _ HB3.out) (KB.out _ HB3.out)).mono ?_
    rintro e W5 ⟨⟨A5, c5, rfl, h1, h2, h3⟩, hb5⟩
    have HB5 := Lib.hid (bel_call HB3.out hb5 HB3.out.size)
    have HR5 := Lib.hid h3
    clear h3 hb5 HB3
    go_wp2_with fail
    refine (C4.out _ (RA.out _ HB5.out) (RB.out _ HB5.out)).mono ?_
    rintro e W6 ⟨⟨v6, rfl, ho6⟩, hb6⟩
    have HB6 := Lib.hid (bel_call HB5.out hb6 HB5.out.size)
    have HS1 := Lib.hid (slOf L2.out h1 h2 ((HR5.out.below hb6 (Nat.le_refl _)).more hb6.size))
    have HS2 := Lib.hid ho6.sl
    clear ho6 hb6 HB5 HR5 h1 h2
    go_wp2_with fail
    refine (same_yes _ _ X2 _ HS1.out HS2.out).mono ?_
    rintro e W7 ⟨rfl, rfl⟩
    clear HS1 HS2
    go_wp2_with fail
    refine (C5.out _ (RA.out _ HB6.out) (KB.out _ HB6.out)).mono ?_
    rintro e W8 ⟨⟨A8, c8, rfl, h1, h2, h3⟩, hb8⟩
    have HB8 := Lib.hid (bel_call HB6.out hb8 HB6.out.size)
    have HR8 := Lib.hid h3
    clear h3 hb8 HB6
    go_wp2_with fail
    refine (C6.out _ (RA.out _ HB8.out)).mono ?_
    rintro e W9 ⟨⟨A9, c9, rfl, h4, h5, h6⟩, hb9⟩
    have HB9 := Lib.hid (bel_call HB8.out hb9 HB8.out.size)
    have HS1 := Lib.hid (slOf L3.out h1 h2 ((HR8.out.below hb9 (Nat.le_refl _)).more hb9.size))
    have HS2 := Lib.hid (slOf L3.out h4 h5 h6)
    clear hb9 HB8 HR8 h1 h2 h4 h5 h6
    go_wp2_with fail
    refine (same_yes _ _ X3 _ HS1.out HS2.out).mono ?_
    rintro e W10 ⟨rfl, rfl⟩
    clear HS1 HS2
    go_wp2_with fail
    refine (C7.out _ (RA.out _ HB9.out) (RB.out _ HB9.out)).mono ?_
    rintro e W11 ⟨rfl, rfl⟩
    go_wp2_with fail
    refine (C8.out _ (RA.out _ HB9.out) (RB.out _ HB9.out)).mono ?_
    rintro e W12 ⟨rfl, rfl⟩
    cases X4
    all_goals
      go_wp2
      go_ret
      exact ⟨rfl, HB9.out⟩
end Go.Proofs.YtgabcbifefokkaaDoor
