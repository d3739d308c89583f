
/- MacBlocks' walk. -/
import Derived.Test.YtgabcbifefokkaaDoorMSame
namespace Go.Proofs.YtgabcbifefokkaaDoor
open Go.RowKit

def ownL (k : List UInt8) : List UInt8 := if 64 < k.length then ofF k else k
theorem blkK_own (k : List UInt8) : blkK k = ownL k ++ List.replicate (64 - (ownL k).length) 0 := rfl
theorem ownL_length (k : List UInt8) : (ownL k).length ≤ 64 := by
  unfold ownL
  split
  · rw [ofF_len]; omega
  · omega
theorem blk_take (k : List UInt8) : (blkK k).take (ownL k).length = ownL k := by
  rw [blkK_own, List.take_left']
  rfl
theorem blk_zero (k : List UInt8) (j : Nat) (h1 : (ownL k).length ≤ j) (h2 : j < 64) : (blkK k).getD j 0 = 0 := by
  have h3 : j < (blkK k).length := by rw [blkK_length]; exact h2
  rw [getD_at _ _ h3]
  simp only [blkK_own]
  rw [List.getElem_append_right h1, List.getElem_replicate]
theorem blk_blk (k : List UInt8) : blkK (blkK k) = blkK k := by
  have h : ownL (blkK k) = blkK k := by unfold ownL; rw [if_neg (by rw [blkK_length]; omega)]
  rw [blkK_own (blkK k), h, blkK_length]
  simp
theorem tag_blk (k b : List UInt8) : tagF (blkK k) b = tagF k b := by unfold tagF; rw [blk_blk]
theorem tag_more (k b : List UInt8) (h : k.length ≤ 63) : tagF (k ++ [0]) b = tagF k b := by
  have e1 : ownL k = k := by unfold ownL; rw [if_neg (by omega)]
  have e2 : ownL (k ++ [0]) = k ++ [0] := by unfold ownL; rw [if_neg (by rw [List.length_append]; simp only [List.length_cons, List.length_nil]; omega)]
  have e : blkK (k ++ [0]) = blkK k := by
    rw [blkK_own, blkK_own k, e1, e2, List.append_assoc]
    congr 1
    rw [List.length_append, show 64 - k.length = (64 - (k.length + 1)) + 1 by omega, List.replicate_succ]
    rfl
  unfold tagF
  rw [e]
theorem refSame_n (A B : Option Addr) (la lb : List UInt8) (ca cb n m : Nat) (w : World) (hn : n = la.length) (hm : m = lb.length) (h : la = lb) (h1 : Rd w w.heap.size A la) (h2 : Rd w w.heap.size B lb) :
    Calls Tryd.prog 11 #[.slice A n ca, .slice B m cb] w fun e w' => e = .returned (.bool true) ∧ w = w' := by
  subst hn hm
  have h := (same_any A B la lb ca cb _ _ w h1 h2)
  rw [decide_eq_true (by assumption)] at h
  exact h
theorem rd_take {w : World} {B : Nat} {A : Option Addr} {l : List UInt8} (h : Rd w B A l) (n : Nat) (hn : n ≤ l.length) : Rd w B A (l.take n) := by
  intro h0
  rw [List.length_take] at h0
  obtain ⟨b, o, e, hb, hc⟩ := h (by omega)
  refine ⟨b, o, e, hb, fun j hj => ?_⟩
  rw [hc j (by rw [List.length_take] at hj; omega), List.getElem_take]

set_option maxRecDepth 100000 in
set_option maxHeartbeats 4000000 in
theorem macBlocks_walk (A : Option Addr) (k : List UInt8) (c : Nat) (B : Option Addr) (b : List UInt8) (d : Nat) (W : World) (hc : k.length ≤ c) (hr : Rd W W.heap.size A k) (hd : b.length ≤ d) (hs : Rd W W.heap.size B b) (hk : Ks W) :
    Calls Tryd.prog 5 #[.slice A k.length c, .slice B b.length d] W fun e W' => e = .returned (.bool true) ∧ Below W.heap.size W W' := by
  have RA := Lib.hid (fun w (h : Below W.heap.size W w) => (hr.below h (Nat.le_refl _)).more h.size)
  have RB := Lib.hid (fun w (h : Below W.heap.size W w) => (hs.below h (Nat.le_refl _)).more h.size)
  have KB := Lib.hid (fun w (h : Below W.heap.size W w) => Ks.call hk h)
  obtain ⟨n, hn⟩ : ∃ n, n = k.length := ⟨_, rfl⟩
  obtain ⟨m, hm⟩ : ∃ m, m = b.length := ⟨_, rfl⟩
  have HN := Lib.hid hn
  by_cases h1 : 300 < n
  · have i1 : (300 : Int) < (n : Int) := by omega
    rw [← hn, ← hm]
    clear hr hs hk hn hm hc hd
    go_enter Tryd.func5, Tryd.ntmps5
    go_wp2_with fail
    refine (shown3_any _ (KB.out _ (Below.refl _ _))).mono ?_
    rintro e W1 ⟨rfl, hb1⟩
    have HB1 := Lib.hid hb1
    have hsz1 := hb1.size
    clear hb1
    go_wp2
    go_ret
    exact ⟨rfl, HB1.out⟩
  · have i1 : ¬ (300 : Int) < (n : Int) := by omega
    by_cases h2 : 300 < m
    · have i2 : (300 : Int) < (m : Int) := by omega
      rw [← hn, ← hm]
      clear hr hs hk hn hm hc hd
      go_enter Tryd.func5, Tryd.ntmps5
      go_wp2_with fail
      refine (shown3_any _ (KB.out _ (Below.refl _ _))).mono ?_
      rintro e W1 ⟨rfl, hb1⟩
      have HB1 := Lib.hid hb1
      have hsz1 := hb1.size
      clear hb1
      go_wp2
      go_ret
      exact ⟨rfl, HB1.out⟩
    · have i2 : ¬ (300 : Int) < (m : Int) := by omega
      have C1 := Lib.hid (fun w h1 h2 => macBlock_any A k c w (by omega) hc h1 h2)
      have HKL := Lib.hid (blkK_length k)
      have C2 := Lib.hid (fun g w (h1 : Rd w w.heap.size (some ⟨g, 0, none⟩) (blkK k)) (h2 : Ks w) => show Calls Tryd.prog 12 #[.slice (some ⟨g, 0, none⟩) 64 64] w fun e w' => AnsK w.heap.size w' e (blkK k) ∧ Below w.heap.size w w' from by
        have h := macBlock_any (some ⟨g, 0, none⟩) (blkK k) 64 w (by rw [blkK_length]; omega) (by rw [blkK_length]; omega) h1 h2
        rw [blkK_length, blk_blk] at h
        exact h)
      have T1 := Lib.hid (fun w h1 h2 h3 => tag_any A B k b c d w (by omega) (by omega) hc hd h1 h2 h3)
      have T2 := Lib.hid (fun g w (h1 : Rd w w.heap.size (some ⟨g, 0, none⟩) (blkK k)) h2 (h3 : Ks w) => show Calls Tryd.prog 14 #[.slice (some ⟨g, 0, none⟩) 64 64, .slice B b.length d] w fun e w' => AnsB w' e (tagF k b) 32 ∧ Below w.heap.size w w' from by
        have h := tag_any (some ⟨g, 0, none⟩) B (blkK k) b 64 d w (by rw [blkK_length]; omega) (by omega) (by rw [blkK_length]; omega) hd h1 h2 h3
        rw [blkK_length, tag_blk] at h
        exact h)
      have T3 := Lib.hid (fun A' c' w (hn63 : n ≤ 63) (h0 : n + 1 ≤ c') (h1 : Rd w w.heap.size A' (k ++ [0])) h2 (h3 : Ks w) => show Calls Tryd.prog 14 #[.slice A' (n + 1) c', .slice B b.length d] w fun e w' => AnsB w' e (tagF k b) 32 ∧ Below w.heap.size w w' from by
        have e : (k ++ [0]).length = n + 1 := by rw [List.length_append, hn]; rfl
        have h := tag_any A' B (k ++ [0]) b c' d w (by omega) (by omega) (by omega) hd h1 h2 h3
        rw [e, tag_more k b (by omega)] at h
        exact h)
      have HTL := Lib.hid (tagF_length k b)
      have HM1 := Lib.hid (show (k ++ [0]).length = n + 1 by rw [List.length_append, hn]; rfl)
      generalize tagF k b = T at *
      by_cases h64 : 64 < n
      · have HOW := Lib.hid (show ownL k = ofF k by unfold ownL; rw [if_pos (by omega)])
        have HZ := Lib.hid (fun j (h1 : 32 ≤ j) (h2 : j < 64) => blk_zero k j (by rw [HOW.out, ofF_len]; exact h1) h2)
        have HTK := Lib.hid (show (blkK k).take 32 = ofF k by have h := blk_take k; rw [HOW.out, ofF_len] at h; exact h)
        have CO := Lib.hid (fun w h1 => refOf_any A k c w (by omega) hc h1)
        have HOL := Lib.hid (ofF_len k)
        rw [← hn, ← hm]
        rw [← hn] at C1 T1 CO
        rw [← hm] at T1 T2 T3
        have i64 : (64 : Int) < (n : Int) := by omega
        clear hr hs hk hn hm hc hd HOW
        generalize ofF k = O at *
        go_enter Tryd.func5, Tryd.ntmps5
        go_wp2_with fail
        refine (shown3_any _ (KB.out _ (Below.refl _ _))).mono ?_
        rintro e W1 ⟨rfl, hb1⟩
        have HB1 := Lib.hid hb1
        have hsz1 := hb1.size
        clear hb1
        go_wp2_with fail
        refine (C1.out _ (RA.out _ HB1.out) (KB.out _ HB1.out)).mono ?_
        rintro e W2 ⟨⟨g2, rfl, h21, h22⟩, hb2⟩
        have HB2 := Lib.hid (bel_call HB1.out hb2 hsz1)
        have HG2 := Lib.hid h21
        clear h21 h22 hb2 HB1 C1
        go_wp2_with fail
        refine (CO.out _ (RA.out _ HB2.out)).mono ?_
        rintro e W4 ⟨⟨A4, c4, rfl, h41, h42, h43⟩, hb4⟩
        have HB4 := Lib.hid (bel_call HB2.out hb4 HB2.out.size)
        have HG4 := Lib.hid (old_below HG2.out hb4 (Nat.le_refl _))
        have HR4 := Lib.hid h43
        clear h43 hb4 HB2 HG2 CO
        go_wp2_with fail
        refine (refSame_n (some ⟨g2, 0, none⟩) A4 ((blkK k).take 32) O 64 _ 32 _ _ (by rw [HTK.out]; exact HOL.out.symm) HOL.out.symm HTK.out (rd_take (Rd.block HG4.out) 32 (by rw [HKL.out]; omega)) HR4.out).mono ?_
        rintro e W5 ⟨rfl, rfl⟩
        go_wp2_with fail
        refine (C2.out g2 _ (Rd.block HG4.out) (KB.out _ HB4.out)).mono ?_
        rintro e W6 ⟨⟨g6, rfl, h61, -⟩, hb6⟩
        have HG6 := Lib.hid (old_below HG4.out hb6 (Nat.le_refl _))
        have HR6 := Lib.hid (Rd.block h61)
        have HB6 := Lib.hid (bel_call HB4.out hb6 HB4.out.size)
        clear h61 hb6 C2
        go_wp2_with fail
        refine (refSame_n (some ⟨g6, 0, none⟩) (some ⟨g2, 0, none⟩) (blkK k) (blkK k) 64 64 64 64 _ HKL.out.symm HKL.out.symm rfl HR6.out (Rd.block HG6.out)).mono ?_
        rintro e W7 ⟨rfl, rfl⟩
        have hsz6 := HB6.out.size
        clear HR6 HG4 HB4
        go_wp2_with fail
        go_loop [8] (fun i => ∃ j : Nat, 32 ≤ j ∧ j ≤ 64 ∧ i = .int .i64 j) (fun i => 64 - (intOf i).toNat)
        case atStart => exact ⟨32, Nat.le_refl _, by omega, rfl⟩
        case round =>
          obtain ⟨j, hj1, hj2, rfl⟩ := hrel
          by_cases hlt : j < 64
          · have hz := (cs_row HG6.out).cell (i := j) (by rw [HKL.out]; exact hlt)
            rw [HZ.out j hj1 hlt] at hz
            have hz2 : W6.cell? ⟨g2, j, none⟩ = some (.int .u8 0) := hz
            have hlti : (j : Int) < 64 := by omega
            have hj0 : (0 : Int) ≤ (j : Int) := Int.natCast_nonneg _
            clear hz
            go_wp2
            go_round
            case rel => exact ⟨j + 1, by omega, by omega, by go_num⟩
            case measure => simp [intOf]; omega
          · have hj64 : j = 64 := by omega
            subst hj64
            go_wp2_with fail
            refine (T1.out _ (RA.out _ HB6.out) (RB.out _ HB6.out) (KB.out _ HB6.out)).mono ?_
            rintro e W8 ⟨⟨A8, c8, rfl, h81, h82, h83⟩, hb8⟩
            have HG8 := Lib.hid (old_below HG6.out hb8 (Nat.le_refl _))
            have HR8 := Lib.hid h83
            have HB8 := Lib.hid (bel_call HB6.out hb8 hsz6)
            have hsz8 := HB8.out.size
            clear h83 hb8 T1 h81 h82
            go_wp2_with (first
              | (at_builtin; refine wpList_appS (W8.alloc (.cells #[] 5)) rfl (.tmp 62) (.tmp 63) rfl W8.heap.size _ [] k rfl (by exact Ow.made0 W8 (Nat.le_refl _)) A n c _ rfl HN.out (by exact RA.out _ (HB8.out.alloc hsz8 _)) (by simp only [List.length_nil]; have := HN.out; omega) (by exact le_alloc (Nat.le_refl _) _) ?_; intro v9 W9 hown9 hgrow9; have HB9 := Lib.hid (Ow.below (w0 := W8) (by exact Ow.made0 W8 (Nat.le_refl _)) (by exact (Below.refl _ _).alloc (Nat.le_refl _) _) hgrow9 (by exact le_alloc (Nat.le_refl _) _)); rw [List.nil_append] at hown9; have HO9 := Lib.hid hown9; have hsz9 := HB9.out.size; clear hown9 hgrow9)
              | (at_builtin; (refine wpList_app rfl _ (.tmp 64) (.tmp 65) rfl W8.heap.size _ _ [0] rfl (by exact HO9.out.alloc _) ⟨_, 0, none⟩ 1 _ rfl rfl (by exact news0 _) (by simp only [List.length_cons, List.length_nil]; have := HN.out; omega) (by exact le_alloc hsz9 _) ?_); intro v10 W10 hown10 hgrow10; have HB10 := Lib.hid (Ow.below (w0 := W8) (by exact HO9.out.alloc _) (by exact HB9.out.alloc hsz9 _) hgrow10 (by exact le_alloc hsz9 _)); obtain ⟨A10, c10, e10, h101, h102, h103⟩ := hown10.form; rw [HM1.out] at e10 h101; subst e10; have HR10 := Lib.hid h103; have hsz10 := HB10.out.size; clear hown10 hgrow10 h103))
            have HBW := Lib.hid (HB8.out.trans (HB10.out.mono hsz8))
            have HG10 := Lib.hid (Rd.block (old_below HG8.out HB10.out (Nat.le_refl _)))
            have HT10 := Lib.hid ((HR8.out.below HB10.out (Nat.le_refl _)).more hsz10)
            refine (T2.out g2 _ HG10.out (RB.out _ HBW.out) (KB.out _ HBW.out)).mono ?_
            rintro e W11 ⟨⟨A11, c11, rfl, -, -, h113⟩, hb11⟩
            have HB11 := Lib.hid (bel_call HBW.out hb11 HBW.out.size)
            have HR11 := Lib.hid h113
            have HT11 := Lib.hid ((HT10.out.below hb11 (Nat.le_refl _)).more hb11.size)
            have HM11 := Lib.hid ((HR10.out.below hb11 (Nat.le_refl _)).more hb11.size)
            clear h113 hb11 HO9 HB9 HG8 HR8 HG10 HT10 HR10 HB10
            go_wp2_with fail
            refine (refSame_n A11 A8 T T _ _ 32 32 _ HTL.out.symm HTL.out.symm rfl HR11.out HT11.out).mono ?_
            rintro e W12 ⟨rfl, rfl⟩
            go_wp2
            go_ret
            exact ⟨rfl, HB11.out⟩
      · have HOW := Lib.hid (show ownL k = k by unfold ownL; rw [if_neg (by omega)])
        have HZ := Lib.hid (fun j (h1 : n ≤ j) (h2 : j < 64) => blk_zero k j (by rw [HOW.out, ← hn]; exact h1) h2)
        have HTK := Lib.hid (show (blkK k).take n = k by have h := blk_take k; rw [HOW.out, ← hn] at h; exact h)
        rw [← hn, ← hm]
        rw [← hn] at C1 T1
        rw [← hm] at T1 T2 T3
        have i64 : ¬ (64 : Int) < (n : Int) := by omega
        have hn64 : n ≤ 64 := by omega
        have i65 : (n : Int) ≤ 64 := by omega
        clear hr hs hk hn hm hc hd HOW
        go_enter Tryd.func5, Tryd.ntmps5
        go_wp2_with fail
        refine (shown3_any _ (KB.out _ (Below.refl _ _))).mono ?_
        rintro e W1 ⟨rfl, hb1⟩
        have HB1 := Lib.hid hb1
        have hsz1 := hb1.size
        clear hb1
        go_wp2_with fail
        refine (C1.out _ (RA.out _ HB1.out) (KB.out _ HB1.out)).mono ?_
        rintro e W4 ⟨⟨g2, rfl, h21, h22⟩, hb2⟩
        have HB4 := Lib.hid (bel_call HB1.out hb2 hsz1)
        have HG4 := Lib.hid h21
        clear h21 h22 hb2 HB1 C1
        go_wp2_with fail
        refine (refSame_n (some ⟨g2, 0, none⟩) A ((blkK k).take n) k 64 _ n _ _ (by rw [HTK.out]; exact HN.out) HN.out HTK.out (rd_take (Rd.block HG4.out) n (by rw [HKL.out]; omega)) (RA.out _ HB4.out)).mono ?_
        rintro e W5 ⟨rfl, rfl⟩
        go_wp2_with fail
        refine (C2.out g2 _ (Rd.block HG4.out) (KB.out _ HB4.out)).mono ?_
        rintro e W6 ⟨⟨g6, rfl, h61, -⟩, hb6⟩
        have HG6 := Lib.hid (old_below HG4.out hb6 (Nat.le_refl _))
        have HR6 := Lib.hid (Rd.block h61)
        have HB6 := Lib.hid (bel_call HB4.out hb6 HB4.out.size)
        clear h61 hb6 C2
        go_wp2_with fail
        refine (refSame_n (some ⟨g6, 0, none⟩) (some ⟨g2, 0, none⟩) (blkK k) (blkK k) 64 64 64 64 _ HKL.out.symm HKL.out.symm rfl HR6.out (Rd.block HG6.out)).mono ?_
        rintro e W7 ⟨rfl, rfl⟩
        have hsz6 := HB6.out.size
        clear HR6 HG4 HB4
        go_wp2_with fail
        go_loop [8] (fun i => ∃ j : Nat, n ≤ j ∧ j ≤ 64 ∧ i = .int .i64 j) (fun i => 64 - (intOf i).toNat)
        case atStart => exact ⟨n, Nat.le_refl _, by omega, rfl⟩
        case round =>
          obtain ⟨j, hj1, hj2, rfl⟩ := hrel
          by_cases hlt : j < 64
          · have hz := (cs_row HG6.out).cell (i := j) (by rw [HKL.out]; exact hlt)
            rw [HZ.out j hj1 hlt] at hz
            have hz2 : W6.cell? ⟨g2, j, none⟩ = some (.int .u8 0) := hz
            have hlti : (j : Int) < 64 := by omega
            have hj0 : (0 : Int) ≤ (j : Int) := Int.natCast_nonneg _
            clear hz
            go_wp2
            go_round
            case rel => exact ⟨j + 1, by omega, by omega, by go_num⟩
            case measure => simp [intOf]; omega
          · have hj64 : j = 64 := by omega
            subst hj64
            go_wp2_with fail
            refine (T1.out _ (RA.out _ HB6.out) (RB.out _ HB6.out) (KB.out _ HB6.out)).mono ?_
            rintro e W8 ⟨⟨A8, c8, rfl, h81, h82, h83⟩, hb8⟩
            have HG8 := Lib.hid (old_below HG6.out hb8 (Nat.le_refl _))
            have HR8 := Lib.hid h83
            have HB8 := Lib.hid (bel_call HB6.out hb8 hsz6)
            have hsz8 := HB8.out.size
            clear h83 hb8 T1 h81 h82
            go_wp2_with (first
              | (at_builtin; refine wpList_appS (W8.alloc (.cells #[] 5)) rfl (.tmp 62) (.tmp 63) rfl W8.heap.size _ [] k rfl (by exact Ow.made0 W8 (Nat.le_refl _)) A n c _ rfl HN.out (by exact RA.out _ (HB8.out.alloc hsz8 _)) (by simp only [List.length_nil]; have := HN.out; omega) (by exact le_alloc (Nat.le_refl _) _) ?_; intro v9 W9 hown9 hgrow9; have HB9 := Lib.hid (Ow.below (w0 := W8) (by exact Ow.made0 W8 (Nat.le_refl _)) (by exact (Below.refl _ _).alloc (Nat.le_refl _) _) hgrow9 (by exact le_alloc (Nat.le_refl _) _)); rw [List.nil_append] at hown9; have HO9 := Lib.hid hown9; have hsz9 := HB9.out.size; clear hown9 hgrow9)
              | (at_builtin; (refine wpList_app rfl _ (.tmp 64) (.tmp 65) rfl W8.heap.size _ _ [0] rfl (by exact HO9.out.alloc _) ⟨_, 0, none⟩ 1 _ rfl rfl (by exact news0 _) (by simp only [List.length_cons, List.length_nil]; have := HN.out; omega) (by exact le_alloc hsz9 _) ?_); intro v10 W10 hown10 hgrow10; have HB10 := Lib.hid (Ow.below (w0 := W8) (by exact HO9.out.alloc _) (by exact HB9.out.alloc hsz9 _) hgrow10 (by exact le_alloc hsz9 _)); obtain ⟨A10, c10, e10, h101, h102, h103⟩ := hown10.form; rw [HM1.out] at e10 h101; subst e10; have HR10 := Lib.hid h103; have hsz10 := HB10.out.size; clear hown10 hgrow10 h103))
            have HBW := Lib.hid (HB8.out.trans (HB10.out.mono hsz8))
            have HG10 := Lib.hid (Rd.block (old_below HG8.out HB10.out (Nat.le_refl _)))
            have HT10 := Lib.hid ((HR8.out.below HB10.out (Nat.le_refl _)).more hsz10)
            refine (T2.out g2 _ HG10.out (RB.out _ HBW.out) (KB.out _ HBW.out)).mono ?_
            rintro e W11 ⟨⟨A11, c11, rfl, -, -, h113⟩, hb11⟩
            have HB11 := Lib.hid (bel_call HBW.out hb11 HBW.out.size)
            have HR11 := Lib.hid h113
            have HT11 := Lib.hid ((HT10.out.below hb11 (Nat.le_refl _)).more hb11.size)
            have HM11 := Lib.hid ((HR10.out.below hb11 (Nat.le_refl _)).more hb11.size)
            clear h113 hb11 HO9 HB9 HG8 HR8 HG10 HT10 HR10 HB10
            go_wp2_with fail
            refine (refSame_n A11 A8 T T _ _ 32 32 _ HTL.out.symm HTL.out.symm rfl HR11.out HT11.out).mono ?_
            rintro e W12 ⟨rfl, rfl⟩
            by_cases h63 : 63 < n
            · have i63 : (63 : Int) < (n : Int) := by omega
              go_wp2
              go_ret
              exact ⟨rfl, HB11.out⟩
            · have i63 : ¬ (63 : Int) < (n : Int) := by omega
              go_wp2_with fail
              refine (T3.out A10 c10 _ (by omega) h101 HM11.out (RB.out _ HB11.out) (KB.out _ HB11.out)).mono ?_
              rintro e W13 ⟨⟨A13, c13, rfl, -, -, h133⟩, hb13⟩
              have HB13 := Lib.hid (bel_call HB11.out hb13 HB11.out.size)
              have HR13 := Lib.hid h133
              have HT13 := Lib.hid ((HT11.out.below hb13 (Nat.le_refl _)).more hb13.size)
              clear h133 hb13
              go_wp2_with fail
              refine (refSame_n A13 A8 T T _ _ 32 32 _ HTL.out.symm HTL.out.symm rfl HR13.out HT13.out).mono ?_
              rintro e W14 ⟨rfl, rfl⟩
              go_wp2
              go_ret
              exact ⟨rfl, HB13.out⟩
end Go.Proofs.YtgabcbifefokkaaDoor
