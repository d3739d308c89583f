
/- FramePieces' walk. -/
import Derived.Test.YtcableacihkggaaJ23
import Derived.Test.YtcableacihkggaaJ22
import Derived.Test.YtcableacihkggaaJ11
namespace Go.Proofs.Ytcableacihkggaa
open Go.RowKit

set_option maxRecDepth 100000 in
theorem flat8 (ls : List (List UInt8)) (k : Nat) (h : k < ls.length) : (ls.take (k + 1)).flatten = (ls.take k).flatten ++ ls[k] := by
  rw [List.take_succ_eq_append_getElem h, List.flatten_append]
  simp
set_option maxRecDepth 100000 in
set_option maxHeartbeats 4000000 in
theorem framePieces_walk (A : Option Addr) (l : List UInt8) (c : Nat) (s b : Int) (B : Option Addr) (ls : List (List UInt8)) (d : Nat) (W : World) (hc : l.length ≤ c) (hcm : c ≤ 9223372036854775807) (hr : Rd W W.heap.size A l) (_hs : -9223372036854775808 ≤ s ∧ s ≤ 9223372036854775807) (hb : -9223372036854775808 ≤ b ∧ b ≤ 9223372036854775807) (hd : ls.length ≤ d) (hdm : d ≤ 9223372036854775807) (hm : Mat W W.heap.size B ls) :
    Calls Try.prog 5 #[.agg #[.slice A l.length c, .int .i64 s, .int .i64 b], .slice B ls.length d] W fun e W' => e = .returned (.bool true) ∧ Below W.heap.size W W' := by
  have R0 := Lib.hid hr
  have R1 := Lib.hid hm
  have CR := Lib.hid (fun w (hB : Below W.heap.size W w) (h : Rd w w.heap.size A l) => refRight8_any A l c s b w h)
  have LC := Lib.hid (fun w (hB : Below W.heap.size W w) (h : Mat w w.heap.size B ls) => long_at 2000 (by omega) B ls d w h)
  by_cases hR : RightFd ⟨l, s, b⟩
  case neg =>
    rw [decide_eq_false hR] at CR
    clear hr hm hc hcm hd hdm hb _hs hR LC
    generalize ls.length = q at *
    generalize l.length = n at *
    have hb := (Below.refl W.heap.size W).alloc (Nat.le_refl _) (.cells #[.slice A n c, .int .i64 s, .int .i64 b] 24)
    have hg := heap_alloc_new W (.cells #[.slice A n c, .int .i64 s, .int .i64 b] 24)
    obtain ⟨V0, hV⟩ : ∃ V, V = W.alloc (.cells #[.slice A n c, .int .i64 s, .int .i64 b] 24) := ⟨_, rfl⟩
    rw [← hV] at hb hg
    have HB := Lib.hid hb
    have G0 := Lib.hid hg
    have nR0 := Lib.hid ((R0.out.below hb (Nat.le_refl _)).more hb.size)
    have nR1 := Lib.hid ((R1.out.below hb (Nat.le_refl _)).more hb.size)
    have HV := Lib.hid hV
    clear hb hg hV
    clear R0 R1
    have R0 := nR0
    have R1 := nR1
    clear nR0 nR1
    go_enter Try.func5, Try.ntmps5
    go_wp2_with fail
    rw [← HV.out]
    clear HV
    refine (shown8_any _).mono ?_
    rintro e w1 ⟨rfl, hb⟩
    have nHB := Lib.hid (belG HB.out hb HB.out.size)
    have nR0 := Lib.hid ((R0.out.below hb (Nat.le_refl _)).more hb.size)
    have nR1 := Lib.hid ((R1.out.below hb (Nat.le_refl _)).more hb.size)
    have nG0 := Lib.hid (oldG G0.out hb (Nat.le_refl _))
    clear hb
    clear HB R0 R1 G0
    have HB := nHB
    have R0 := nR0
    have R1 := nR1
    have G0 := nG0
    clear nHB nR0 nR1 nG0
    obtain ⟨g0x, g0y, g0z⟩ := cG3 G0.out
    go_wp2_with fail
    clear g0x g0y g0z
    refine (CR.out _ HB.out R0.out).mono ?_
    rintro e w2 ⟨rfl, hb⟩
    have nHB := Lib.hid (belG HB.out hb HB.out.size)
    have nR0 := Lib.hid ((R0.out.below hb (Nat.le_refl _)).more hb.size)
    have nR1 := Lib.hid ((R1.out.below hb (Nat.le_refl _)).more hb.size)
    have nG0 := Lib.hid (oldG G0.out hb (Nat.le_refl _))
    clear hb
    clear HB R0 R1 G0
    have HB := nHB
    have R0 := nR0
    have R1 := nR1
    have G0 := nG0
    clear nHB nR0 nR1 nG0
    go_wp2_with fail
    go_ret
    exact ⟨rfl, HB.out⟩
  rw [decide_eq_true hR] at CR
  have MB := Lib.hid (fun w (h : Below W.heap.size W w) => hm.below h (Nat.le_refl _))
  obtain ⟨F, hF⟩ : ∃ F : Fd, F = ⟨l, s, b⟩ := ⟨_, rfl⟩
  obtain ⟨P, hP⟩ : ∃ P : Nat → Fd × List (List UInt8), P = fun k => pushF F (ls.take k).flatten := ⟨_, rfl⟩
  have HP0 := Lib.hid (show P 0 = (F, []) by rw [hP]; rfl)
  have HRP := Lib.hid (show ∀ k, RightFd (P k).1 by rw [hP]; intro k; exact right_push _ (by rw [hF]; exact hR))
  have HBP := Lib.hid (show ∀ k, -9223372036854775808 ≤ (P k).1.bad ∧ (P k).1.bad ≤ 9223372036854775807 by rw [hP]; intro k; exact push_bad64 _ _ (by rw [hF]; exact hb))
  have HPN := Lib.hid (show ∀ k (h : k < ls.length), P (k + 1) = ((pushF (P k).1 ls[k]).1, (P k).2 ++ (pushF (P k).1 ls[k]).2) by rw [hP]; intro k h; simp only; rw [flat8 ls k h, pushF_append])
  have HPS := Lib.hid (show ∀ k, (P k).2.length ≤ tot ls k by rw [hP]; intro k; rw [← tot_flat]; exact push_len _ _)
  have HPR := Lib.hid (show ∀ k (h : k < ls.length), ∀ r ∈ (pushF (P k).1 ls[k]).2, 1 ≤ r.length by intro k h r hr; exact (push_rows _ (HRP.out k) r hr).1)
  have HFA := Lib.hid (show P ls.length = pushF F ls.flatten by rw [hP]; simp only [List.take_length])
  have HFB := Lib.hid hF
  have HCF := Lib.hid (And.intro hc hcm)
  have HBB := Lib.hid hb
  have HRA := Lib.hid (fun w (h : Below W.heap.size W w) => (hr.below h (Nat.le_refl _)).more h.size)
  have HRR := Lib.hid hR
  obtain ⟨n, hn⟩ : ∃ n, n = l.length := ⟨_, rfl⟩
  have HN := Lib.hid hn
  obtain ⟨m, hm'⟩ : ∃ m, m = ls.length := ⟨_, rfl⟩
  have HM := Lib.hid hm'
  rw [← hn] at CR ⊢
  rw [← hm'] at LC HFA hd ⊢
  clear hr hm hc hcm hb _hs hR hP hF hn hm'
  have hb := (Below.refl W.heap.size W).alloc (Nat.le_refl _) (.cells #[.slice A n c, .int .i64 s, .int .i64 b] 24)
  have hg := heap_alloc_new W (.cells #[.slice A n c, .int .i64 s, .int .i64 b] 24)
  obtain ⟨V0, hV⟩ : ∃ V, V = W.alloc (.cells #[.slice A n c, .int .i64 s, .int .i64 b] 24) := ⟨_, rfl⟩
  rw [← hV] at hb hg
  have HB := Lib.hid hb
  have G0 := Lib.hid hg
  have nR0 := Lib.hid ((R0.out.below hb (Nat.le_refl _)).more hb.size)
  have nR1 := Lib.hid ((R1.out.below hb (Nat.le_refl _)).more hb.size)
  have HV := Lib.hid hV
  clear hb hg hV
  clear R0 R1
  have R0 := nR0
  have R1 := nR1
  clear nR0 nR1
  go_enter Try.func5, Try.ntmps5
  go_wp2_with fail
  rw [← HV.out]
  clear HV
  refine (shown8_any _).mono ?_
  rintro e w1 ⟨rfl, hb⟩
  have nHB := Lib.hid (belG HB.out hb HB.out.size)
  have nR0 := Lib.hid ((R0.out.below hb (Nat.le_refl _)).more hb.size)
  have nR1 := Lib.hid ((R1.out.below hb (Nat.le_refl _)).more hb.size)
  have nG0 := Lib.hid (oldG G0.out hb (Nat.le_refl _))
  clear hb
  clear HB R0 R1 G0
  have HB := nHB
  have R0 := nR0
  have R1 := nR1
  have G0 := nG0
  clear nHB nR0 nR1 nG0
  obtain ⟨g0x, g0y, g0z⟩ := cG3 G0.out
  go_wp2_with fail
  clear g0x g0y g0z
  refine (CR.out _ HB.out R0.out).mono ?_
  rintro e w2 ⟨rfl, hb⟩
  have nHB := Lib.hid (belG HB.out hb HB.out.size)
  have nR0 := Lib.hid ((R0.out.below hb (Nat.le_refl _)).more hb.size)
  have nR1 := Lib.hid ((R1.out.below hb (Nat.le_refl _)).more hb.size)
  have nG0 := Lib.hid (oldG G0.out hb (Nat.le_refl _))
  clear hb
  clear HB R0 R1 G0
  have HB := nHB
  have R0 := nR0
  have R1 := nR1
  have G0 := nG0
  clear nHB nR0 nR1 nG0
  go_wp2_with fail
  refine (LC.out _ HB.out R1.out).mono ?_
  rintro e w3 ⟨⟨r, rfl, hr9⟩, rfl⟩
  by_cases hL : (2000 : Int) < r
  case pos =>
    go_wp2_with fail
    go_ret
    exact ⟨rfl, HB.out⟩
  have hT := hr9 (by omega)
  rw [← HM.out] at hT
  have HT := Lib.hid hT
  clear hr9 hT
  obtain ⟨V, hV⟩ : ∃ V, V = ((w2.alloc (.cells #[] 5)).alloc (.cells #[] 22)) := ⟨_, rfl⟩
  have hb2 : Below w2.heap.size w2 V := by rw [hV]; exact ((Below.refl _ _).alloc (Nat.le_refl _) _).alloc (by simp) _
  have hg2 := oldG G0.out hb2 (Nat.le_refl _)
  obtain ⟨x0, x1, x2⟩ := cG3 hg2
  rw [hV] at x0 x1 x2
  go_wp2_with fail
  clear x0 x1 x2 hV hb2 hg2
  obtain ⟨V3, hV3⟩ : ∃ Z, Z = ((w2.alloc (.cells #[] 5)).alloc (.cells #[] 22)).alloc (.cells #[.slice A n c, .int .i64 s, .int .i64 b] 24) := ⟨_, rfl⟩
  rw [← hV3]
  have hA0 : Ow V3 w2.heap.size (.slice (some ⟨w2.heap.size, 0, none⟩) 0 0) [] := by rw [hV3]; exact ((Ow.made0 w2 (Nat.le_refl _)).alloc _).alloc _
  have hO0 : OwR V3 w2.heap.size (.slice (some ⟨w2.heap.size + 1, 0, none⟩) 0 0) [] := by
    rw [hV3]
    have h := (OwR.made0 (w2.alloc (.cells #[] 5)) (base := w2.heap.size) (by simp)).alloc (.cells #[.slice A n c, .int .i64 s, .int .i64 b] 24)
    simpa using h
  have hX0 : V3.heap[w2.heap.size + 1 + 1]? = some (.cells #[.slice A n c, .int .i64 s, .int .i64 b] 24 (0, 0)) := by
    rw [hV3]
    have h := heap_alloc_new ((w2.alloc (.cells #[] 5)).alloc (.cells #[] 22)) (.cells #[.slice A n c, .int .i64 s, .int .i64 b] 24)
    simpa using h
  have hb3 : Below w2.heap.size w2 V3 := by rw [hV3]; exact (((Below.refl _ _).alloc (Nat.le_refl _) _).alloc (by simp) _).alloc (by simp; omega) _
  have hz3 : V3.heap.size = w2.heap.size + 3 := by rw [hV3]; simp
  rw [HN.out] at hX0
  have HXB := Lib.hid (show BoxFdA V3 (w2.heap.size + 1 + 1) w2.heap.size F from by rw [HFB.out]; exact ⟨A, c, hX0, HCF.out.1, HCF.out.2, R0.out.go hb3, R0.out.aw (Nat.le_refl _)⟩)
  have HA0 := Lib.hid hA0
  have HO0 := Lib.hid hO0
  have HG0 := Lib.hid (oldG G0.out hb3 (Nat.le_refl _))
  have HB3 := Lib.hid (belG HB.out hb3 HB.out.size)
  have HZ3 := Lib.hid (show w2.heap.size + 3 ≤ V3.heap.size by omega)
  have HWA := Lib.hid (show W.heap.size + 1 ≤ w2.heap.size from (Array.getElem?_eq_some_iff.1 G0.out).1)
  clear hA0 hO0 hX0 hb3 hz3 hV3 HB R0 R1 G0
  obtain ⟨a, ha⟩ : ∃ a, a = w2.heap.size := ⟨_, rfl⟩
  rw [← ha] at HXB HA0 HO0 HZ3 HWA ⊢
  clear ha
  go_loopw [9, 7, 6] (fun i vo va wr => ∃ k : Nat, ∃ us : List Value, ∃ ga na ca : Nat, k ≤ m ∧ i = .int .i64 k ∧ va = .slice (some ⟨ga, 0, none⟩) na ca ∧ Hid (Ow wr a (.slice (some ⟨ga, 0, none⟩) na ca) (ls.take k).flatten) ∧ Hid (OwR wr a vo us) ∧ Hid (SEs wr us (P k).2) ∧ Hid (∀ u ∈ us, AwV ga u) ∧ Hid (BoxFdA wr (a + 1 + 1) ga (P k).1) ∧ Hid (wr.heap[W.heap.size]? = some (.cells #[.slice A n c, .int .i64 s, .int .i64 b] 24 (0, 0))) ∧ Hid (Below W.heap.size W wr) ∧ Hid (a + 3 ≤ wr.heap.size)) (fun i _ _ _ => m - (intOf i).toNat)
  case atStart => exact ⟨0, [], a, 0, 0, Nat.zero_le _, rfl, rfl, HA0, HO0, Lib.hid (by rw [HP0.out]; exact SEs.nil), Lib.hid (fun u hu => by simp at hu), Lib.hid (by rw [HP0.out]; exact HXB.out), HG0, HB3, HZ3⟩
  case round =>
    clear HA0 HO0 HXB HG0 HB3 HZ3
    obtain ⟨k, us, ga, na, ca, hk, rfl, rfl, HA, HO, HS, HAW, HBX, HG, HBW, HSZ⟩ := hrel
    by_cases hlt : k < m
    · have hk1 : k < ls.length := by rw [← HM.out]; exact hlt
      obtain ⟨A1, c1, hg, q1, q2, q3, q4⟩ := HBX.out
      obtain ⟨x0, x1, x2⟩ := cG3 hg
      obtain ⟨b1, o1, rfl, hb1, hrow⟩ := MB.out W (Below.refl _ _) (by omega)
      obtain ⟨A3, c3, y0W, h7, h8, h9W⟩ := hrow k hk1
      have y0 := (HBW.out.cell (p := ⟨b1, o1 + k, none⟩) hb1).trans y0W
      have h9 := h9W.below HBW.out (Nat.le_refl _)
      obtain ⟨hga1, hga2, hna, hnc, hncm, -⟩ := HA.out.ge
      have h9w := h9.more HBW.out.size
      have hrl : ls[k].length ≤ 2000 := by
        have h1 := tot_succ ls k hk1
        have h2 := tot_mono ls (k + 1) hk1
        have h3 := HT.out
        rw [HM.out] at h3
        omega
      have CO := Lib.hid (fun w (h : Below wr.heap.size wr w) => (fPushD_any A1 (P k).1.buf c1 (P k).1.skip (P k).1.bad A3 ls[k] c3 w (HRP.out k) q1 q2 (HBP.out k) (q3.go h) (by omega) h7 h8 (h9w.go h)).mono (fun e W' hh => And.intro (hh.1.apart (Nat.lt_of_lt_of_le hga2 h.size) q4 (h9.aw (by have := HWA.out; omega))) hh.2))
      have HN1 := Lib.hid (HPN.out k hk1)
      have HRN := Lib.hid (HPR.out k hk1)
      have HRX := Lib.hid (HRP.out (k + 1))
      have HF1 := Lib.hid (flat8 ls k hk1)
      have hki : (k : Int) < (m : Int) := by omega
      have hk0 : (0 : Int) ≤ (k : Int) := Int.natCast_nonneg _
      have HU1 := Lib.hid (show us.length + (pushF (P k).1 ls[k]).2.length ≤ 100000 by
        have h0 := HS.out.1
        have h1 := HPS.out k
        have h2 := tot_mono ls k (by omega)
        have h3 := HT.out
        have h4 := push_len ls[k] (P k).1
        rw [HM.out] at h3
        omega)
      have HNA := Lib.hid (show (ls.take k).flatten.length + ls[k].length ≤ 10000000 by
        rw [tot_flat]
        have h2 := tot_mono ls k (by omega)
        have h3 := HT.out
        rw [HM.out] at h3
        omega)
      obtain ⟨X, hX⟩ : ∃ X, X = pushF (P k).1 ls[k] := ⟨_, rfl⟩
      have e9 : pushF ⟨(P k).1.buf, (P k).1.skip, (P k).1.bad⟩ ls[k] = X := hX.symm
      rw [← hX] at HN1 HRN HU1
      rw [e9] at CO
      unfold AnsPushA at CO
      have HG0 := Lib.hid hg
      have HRW := Lib.hid h9
      have BB0 := Lib.hid ((Below.refl wr.heap.size wr).drew)
      have KEEP := Lib.hid (fun w' (h : Below wr.heap.size wr w') => (show Below wr.heap.size wr w' ∧ w'.cell? ⟨a + 1 + 1, 0, none⟩ = some (.slice A1 (P k).1.buf.length c1) ∧ w'.cell? ⟨a + 1 + 1, 1, none⟩ = some (.int .i64 (P k).1.skip) ∧ w'.cell? ⟨a + 1 + 1, 2, none⟩ = some (.int .i64 (P k).1.bad) ∧ w'.cell? ⟨b1, o1 + k, none⟩ = some (.slice A3 ls[k].length c3) from
        ⟨h, (cG3 (oldG hg h (Nat.le_refl _))).1, (cG3 (oldG hg h (Nat.le_refl _))).2.1, (cG3 (oldG hg h (Nat.le_refl _))).2.2, (h.cell (p := ⟨b1, o1 + k, none⟩) (Nat.lt_of_lt_of_le hb1 HBW.out.size)).trans y0⟩))
      have HRN2 := Lib.hid (show ∀ w : World, Below W.heap.size W w → w.cell? ⟨b1, o1 + k, none⟩ = some (.slice A3 ls[k].length c3) ∧ Rd w W.heap.size A3 ls[k] from fun w hw => ⟨(hw.cell (p := ⟨b1, o1 + k, none⟩) hb1).trans y0W, h9W.below hw (Nat.le_refl _)⟩)
      generalize ls[k] = row at *
      generalize hbn : (P k).1.buf.length = bn at *
      generalize (P k).1.skip = sk at *
      generalize (P k).1.bad = bd at *
      generalize hrn : row.length = rn at *
      have HRNL := Lib.hid hrn.symm
      clear hg q1 q2 q3 q4 hX e9 HBX hb1 hrow h7 h8 h9 h9w h9W y0W hbn hrn hna hrl
      go_wp2_with fail
      clear x0 x1 x2 y0
      have BA := Lib.hid (((Below.refl wr.heap.size wr).alloc (Nat.le_refl _) (.cells #[.slice none 0 0, .int .i64 0, .int .i64 0] 24)).drew)
      go_region_held3 (fun w' => Below wr.heap.size wr w' ∧ w'.cell? ⟨a + 1 + 1, 0, none⟩ = some (.slice A1 bn c1) ∧ w'.cell? ⟨a + 1 + 1, 1, none⟩ = some (.int .i64 sk) ∧ w'.cell? ⟨a + 1 + 1, 2, none⟩ = some (.int .i64 bd) ∧ w'.cell? ⟨b1, o1 + k, none⟩ = some (.slice A3 rn c3))
        (first | with_reducible exact KEEP.out _ BB0.out | with_reducible exact KEEP.out _ BB1.out | with_reducible exact KEEP.out _ BA.out | with_reducible exact KEEP.out _ BC.out | with_reducible exact KEEP.out _ BD.out | with_reducible exact KEEP.out _ BE.out)
        (first
        | (go_at_call 17; (with_reducible refine (CO.out _ BB0.out).mono ?_); rintro e wz ⟨⟨A2, c2, A4, c4, us2, rfl, q1, q2, q3, q4, q5, q6, q7⟩, hb⟩; have BB1 := Lib.hid (belG BB0.out hb BB0.out.size); have BC := Lib.hid (BB1.out.alloc BB1.out.size (.cells #[.slice none 0 0, .int .i64 0, .int .i64 0] 24)); have BD := Lib.hid (BB1.out.alloc BB1.out.size (.cells #[.slice A2 X.1.buf.length c2, .int .i64 X.1.skip, .int .i64 X.1.bad] 24)); have HBC := Lib.hid hb; have Q1 := Lib.hid q1; have Q2 := Lib.hid q2; have Q3 := Lib.hid q3; have Q4 := Lib.hid q4; have Q5 := Lib.hid q5; have Q6 := Lib.hid q6; have Q7 := Lib.hid q7; clear hb q1 q2 q3 q4 q5 q6 q7)
        | (go_at_call 17; (with_reducible refine (CO.out _ BA.out).mono ?_); rintro e wz ⟨⟨A2, c2, A4, c4, us2, rfl, q1, q2, q3, q4, q5, q6, q7⟩, hb⟩; have BB1 := Lib.hid (belG BA.out hb BA.out.size); have hz := (hb.block wr.heap.size (by simp)).trans (heap_alloc_new wr (.cells #[.slice none 0 0, .int .i64 0, .int .i64 0] 24)); have HZ8 := Lib.hid hz; obtain ⟨e0, e1, e2⟩ := cG3 hz; have f0 := fG hz 0; have f1 := fG hz 1; have f2 := fG hz 2; clear hz; have BE := Lib.hid (((BB1.out.setCell (p := ⟨wr.heap.size, 0, none⟩) (Nat.le_refl _) (.slice A2 X.1.buf.length c2)).setCell (p := ⟨wr.heap.size, 1, none⟩) (Nat.le_refl _) (.int .i64 X.1.skip)).setCell (p := ⟨wr.heap.size, 2, none⟩) (Nat.le_refl _) (.int .i64 X.1.bad)); have HBC := Lib.hid hb; have Q1 := Lib.hid q1; have Q2 := Lib.hid q2; have Q3 := Lib.hid q3; have Q4 := Lib.hid q4; have Q5 := Lib.hid q5; have Q6 := Lib.hid q6; have Q7 := Lib.hid q7; clear hb q1 q2 q3 q4 q5 q6 q7))
      · obtain ⟨Zw, hZw⟩ : ∃ Z, Z = wz.alloc (.cells #[.slice A2 X.1.buf.length c2, .int .i64 X.1.skip, .int .i64 X.1.bad] 24) := ⟨_, rfl⟩
        have hal : Below wz.heap.size wz Zw := by rw [hZw]; exact (Below.refl wz.heap.size wz).alloc (Nat.le_refl _) _
        have hg8 : Zw.heap[wz.heap.size]? = some (.cells #[.slice A2 X.1.buf.length c2, .int .i64 X.1.skip, .int .i64 X.1.bad] 24 (0, 0)) := by rw [hZw]; exact heap_alloc_new wz _
        rw [← hZw]
        have hwz : Below wr.heap.size wr Zw := belG BB1.out hal BB1.out.size
        have HRX2 := Lib.hid (Q3.out.go hal)
        have HS2 := Lib.hid (Q4.out.go hal)
        have HRC := Lib.hid (Q5.out.go hal)
        have hgg : wr.heap.size ≤ wz.heap.size := BB1.out.size
        obtain ⟨g8, hg⟩ : ∃ g, g = wz.heap.size := ⟨_, rfl⟩
        rw [← hg] at hg8 hgg ⊢
        clear hZw hal hg
        have hx8 : a + 1 + 1 ≠ g8 := by have := HSZ.out; omega
        have HX8 := Lib.hid hx8
        have HOz := Lib.hid (HO.out.call hwz)
        have HAz := Lib.hid (HA.out.callG hwz)
        have HSz := Lib.hid (HS.out.go hwz)
        have HGXz := Lib.hid (oldG HG0.out hwz (Nat.le_refl _))
        have HGz := Lib.hid (oldG HG.out hwz (Nat.le_refl _))
        have HBz := Lib.hid (belG HBW.out hwz HBW.out.size)
        have HSZz := Lib.hid (Nat.le_trans HSZ.out hwz.size)
        have HG8 := Lib.hid hg8
        have CY := Lib.hid (show Calls Try.prog 14 #[.agg #[.slice A2 X.1.buf.length c2, .int .i64 X.1.skip, .int .i64 X.1.bad]] Zw fun e W' => e = .returned (.bool true) ∧ Below Zw.heap.size Zw W' from by
          have h := refRight8_any A2 X.1.buf c2 X.1.skip X.1.bad Zw HRX2.out
          rw [decide_eq_true (show RightFd ⟨X.1.buf, X.1.skip, X.1.bad⟩ from by have h2 := HRX.out; rw [HN1.out] at h2; exact h2)] at h
          exact h)
        obtain ⟨y0, y1, y2⟩ := cG3 HG8.out
        clear hwz hgg BB0 BB1 BA KEEP CO HBC HG0 HO HA HS HG HBW HSZ Q3 Q4 Q5 hx8
        go_wp2_with fail
        clear y0 y1 y2
        refine CY.out.mono ?_
        rintro e wq ⟨rfl, hbq⟩
        have HOq := Lib.hid (HOz.out.call hbq)
        have HAq := Lib.hid (HAz.out.callG hbq)
        have HSq := Lib.hid (HSz.out.go hbq)
        have HS2q := Lib.hid (HS2.out.go hbq)
        have HRCq := Lib.hid (HRC.out.go hbq)
        have HRXq := Lib.hid (HRX2.out.go hbq)
        have HGXq := Lib.hid (oldG HGXz.out hbq (Nat.le_refl _))
        have HGq := Lib.hid (oldG HGz.out hbq (Nat.le_refl _))
        have HG8q := Lib.hid (oldG HG8.out hbq (Nat.le_refl _))
        have HBq := Lib.hid (belG HBz.out hbq HBz.out.size)
        have HSZq := Lib.hid (Nat.le_trans HSZz.out hbq.size)
        have HL2 := Lib.hid HS2q.out.1.symm
        clear hbq HOz HAz HSz HS2 HRC HRX2 HGXz HGz HG8 HBz HSZz CY
        go_wp2_with (first
          | (at_builtin; refine wpList_appRs wq rfl (.tmp 45) (.tmp 46) rfl a _ us us2 rfl HOq.out A4 X.2.length c4 rfl HL2.out HRCq.out.at_ HS2q.out.slices (by have h1 := HU1.out; have h2 := HL2.out; omega) (by have := HSZq.out; omega) ?_; intro v6 w6 hown6 hgrow6; have HO6 := Lib.hid hown6; have HK6 := Lib.hid (fun (A : Option Addr) (l : List UInt8) (hr : Rd wq wq.heap.size A l) => Rd.grownR hr HOq.out hgrow6); have HA6 := Lib.hid (HAq.out.keptR HOq.out hgrow6); have HBX6 := Lib.hid (OwR.below (w0 := wq) HOq.out (Below.refl a wq) hgrow6 (by have := HSZq.out; omega)); have HB6 := Lib.hid (HBq.out.trans (HBX6.out.mono (by have := HWA.out; omega))); have HGX6 := Lib.hid (HOq.out.box HGXq.out (by decide) hgrow6); have HG86 := Lib.hid (HOq.out.box HG8q.out (by decide) hgrow6); have HG6 := Lib.hid (HOq.out.box HGq.out (by decide) hgrow6); have HSZ6 := Lib.hid (Nat.le_trans HSZq.out hgrow6.size); clear hown6 hgrow6; obtain ⟨y6, r6⟩ := HRN2.out w6 HB6.out)
          | (at_builtin; refine wpList_appSX w6 rfl (.tmp 48) (.tmp 52) rfl a ga na ca _ row rfl HA6.out A3 rn c3 W.heap.size rfl HRNL.out r6 (by have := HNA.out; have h2 := HRNL.out; rw [← h2]; exact this) (by have := HSZ6.out; omega) ?_; intro g7 n7 c7 w7 hown7 hgrow7 hor7; rw [← HF1.out] at hown7; have HA7 := Lib.hid hown7; have HS6 := Lib.hid ((HSq.out.keep HK6.out).append (HS2q.out.keep HK6.out)); have HAW6 := Lib.hid (show ∀ u ∈ us ++ us2, AwV ga u from fun u hu => (List.mem_append.1 hu).elim (HAW.out u) (Q7.out u)); have HO7 := Lib.hid (HO6.out.keptB HA6.out hgrow7); have HS7 := Lib.hid (HS6.out.aside HAW6.out hgrow7); have HRX6 := Lib.hid (HK6.out _ _ HRXq.out); have HRX7 := Lib.hid (HRX6.out.aside Q6.out hgrow7); have HAW7 := Lib.hid (show ∀ u ∈ us ++ us2, AwV g7 u from by rcases hor7 with e | e; exact e ▸ HAW6.out; exact e ▸ HS6.out.aw (Nat.le_refl _)); have HAX7 := Lib.hid (show AwV g7 (.slice A2 X.1.buf.length c2) from by rcases hor7 with e | e; exact e ▸ Q6.out; exact e ▸ HRX6.out.aw (Nat.le_refl _)); have HBX7 := Lib.hid (Ow.below (w0 := w6) HA6.out (Below.refl a w6) hgrow7 (by have := HSZ6.out; omega)); have HB7 := Lib.hid (HB6.out.trans (HBX7.out.mono (by have := HWA.out; omega))); have HGX7 := Lib.hid (HA6.out.box HGX6.out (by decide) hgrow7); have HG87 := Lib.hid (HA6.out.box HG86.out (by decide) hgrow7); have HG7 := Lib.hid (HA6.out.box HG6.out (by decide) hgrow7); have HSZ7 := Lib.hid (Nat.le_trans HSZ6.out hgrow7.size); clear hown7 hgrow7 hor7 y6 r6; obtain ⟨y0, y1, y2⟩ := cG3 HG87.out; obtain ⟨z0, z1, z2⟩ := cG3 HGX7.out; have u0 := fG HGX7.out 0; have u1 := fG HGX7.out 1; have u2 := fG HGX7.out 2))
        have hothY : ∀ k, k ≠ a + 1 + 1 → (set3F w7 (a + 1 + 1) (.slice A2 X.1.buf.length c2) (.int .i64 X.1.skip) (.int .i64 X.1.bad)).heap[k]? = w7.heap[k]? := fun k hk => set3F_other w7 _ k _ _ _ hk
        have hsY := set3F_size w7 (a + 1 + 1) (.slice A2 X.1.buf.length c2) (.int .i64 X.1.skip) (.int .i64 X.1.bad)
        have HAY := Lib.hid (HA7.out.keep3 HGX7.out (by decide) hothY)
        have HOY := Lib.hid (HO7.out.keep3 HGX7.out (by decide) hothY)
        have HSY := Lib.hid (HS7.out.keep (fun A l hr => hr.keepN HGX7.out (noB3 _ _ _ _ _) hothY (Nat.le_of_eq hsY.symm)))
        have HXY := Lib.hid (show BoxFdA (set3F w7 (a + 1 + 1) (.slice A2 X.1.buf.length c2) (.int .i64 X.1.skip) (.int .i64 X.1.bad)) (a + 1 + 1) g7 X.1 from ⟨A2, c2, set3F_same _ _ _ HGX7.out, Q1.out, Q2.out, HRX7.out.keepN HGX7.out (noB3 _ _ _ _ _) hothY (Nat.le_of_eq hsY.symm), HAX7.out⟩)
        have HGY := Lib.hid ((hothY W.heap.size (by have := HWA.out; omega)).trans HG7.out)
        have HBY := Lib.hid (Below.set3F HB7.out (show W.heap.size ≤ a + 1 + 1 by have := HWA.out; omega) (.slice A2 X.1.buf.length c2) (.int .i64 X.1.skip) (.int .i64 X.1.bad))
        have HSZY := Lib.hid (show a + 3 ≤ (set3F w7 (a + 1 + 1) (.slice A2 X.1.buf.length c2) (.int .i64 X.1.skip) (.int .i64 X.1.bad)).heap.size by rw [hsY]; exact HSZ7.out)
        clear hothY hsY
        go_roundw
        case rel => exact ⟨k + 1, us ++ us2, g7, n7, c7, by omega, by go_num, rfl, HAY, HOY, Lib.hid (by rw [HN1.out]; exact HSY.out), HAW7, Lib.hid (by rw [HN1.out]; exact HXY.out), HGY, HBY, HSZY⟩
        case measure => simp [intOf]; omega
      · obtain ⟨Zw, hZw⟩ : ∃ Z, Z = set3F wz wr.heap.size (.slice A2 X.1.buf.length c2) (.int .i64 X.1.skip) (.int .i64 X.1.bad) := ⟨_, rfl⟩
        have hg8 : Zw.heap[wr.heap.size]? = some (.cells #[.slice A2 X.1.buf.length c2, .int .i64 X.1.skip, .int .i64 X.1.bad] 24 (0, 0)) := by rw [hZw]; exact set3F_same _ _ _ HZ8.out
        have hoth : ∀ k, k ≠ wr.heap.size → Zw.heap[k]? = wz.heap[k]? := fun k hk => by rw [hZw]; exact set3F_other wz _ k _ _ _ hk
        have hszz : Zw.heap.size = wz.heap.size := by rw [hZw]; exact set3F_size _ _ _ _ _
        have hwz : Below wr.heap.size wr Zw := by rw [hZw]; exact Below.set3F BB1.out (Nat.le_refl _) _ _ _
        have HRX2 := Lib.hid (Q3.out.keepN HZ8.out (noB3 _ _ _ _ _) hoth (by omega))
        have HS2 := Lib.hid (Q4.out.keep (fun A l hr => hr.keepN HZ8.out (noB3 _ _ _ _ _) hoth (by omega)))
        have HRC := Lib.hid (Q5.out.keepZ Q4.out HRN.out HZ8.out hoth (by omega))
        obtain ⟨g8, hg⟩ : ∃ g, g = wr.heap.size := ⟨_, rfl⟩
        show Exit.then _ _ Exit.normal _ (set3F wz wr.heap.size (.slice A2 X.1.buf.length c2) (.int .i64 X.1.skip) (.int .i64 X.1.bad))
        rw [← hZw]
        have hgg : wr.heap.size ≤ g8 := by omega
        rw [← hg] at hg8
        rw [show (wr.heap.size : Nat) = g8 from hg.symm]
        clear hZw hoth hszz e0 e1 e2 f0 f1 f2 BE HZ8 hg
        have hx8 : a + 1 + 1 ≠ g8 := by have := HSZ.out; omega
        have HX8 := Lib.hid hx8
        have HOz := Lib.hid (HO.out.call hwz)
        have HAz := Lib.hid (HA.out.callG hwz)
        have HSz := Lib.hid (HS.out.go hwz)
        have HGXz := Lib.hid (oldG HG0.out hwz (Nat.le_refl _))
        have HGz := Lib.hid (oldG HG.out hwz (Nat.le_refl _))
        have HBz := Lib.hid (belG HBW.out hwz HBW.out.size)
        have HSZz := Lib.hid (Nat.le_trans HSZ.out hwz.size)
        have HG8 := Lib.hid hg8
        have CY := Lib.hid (show Calls Try.prog 14 #[.agg #[.slice A2 X.1.buf.length c2, .int .i64 X.1.skip, .int .i64 X.1.bad]] Zw fun e W' => e = .returned (.bool true) ∧ Below Zw.heap.size Zw W' from by
          have h := refRight8_any A2 X.1.buf c2 X.1.skip X.1.bad Zw HRX2.out
          rw [decide_eq_true (show RightFd ⟨X.1.buf, X.1.skip, X.1.bad⟩ from by have h2 := HRX.out; rw [HN1.out] at h2; exact h2)] at h
          exact h)
        obtain ⟨y0, y1, y2⟩ := cG3 HG8.out
        clear hwz hgg BB0 BB1 BA KEEP CO HBC HG0 HO HA HS HG HBW HSZ Q3 Q4 Q5 hx8
        go_wp2_with fail
        clear y0 y1 y2
        refine CY.out.mono ?_
        rintro e wq ⟨rfl, hbq⟩
        have HOq := Lib.hid (HOz.out.call hbq)
        have HAq := Lib.hid (HAz.out.callG hbq)
        have HSq := Lib.hid (HSz.out.go hbq)
        have HS2q := Lib.hid (HS2.out.go hbq)
        have HRCq := Lib.hid (HRC.out.go hbq)
        have HRXq := Lib.hid (HRX2.out.go hbq)
        have HGXq := Lib.hid (oldG HGXz.out hbq (Nat.le_refl _))
        have HGq := Lib.hid (oldG HGz.out hbq (Nat.le_refl _))
        have HG8q := Lib.hid (oldG HG8.out hbq (Nat.le_refl _))
        have HBq := Lib.hid (belG HBz.out hbq HBz.out.size)
        have HSZq := Lib.hid (Nat.le_trans HSZz.out hbq.size)
        have HL2 := Lib.hid HS2q.out.1.symm
        clear hbq HOz HAz HSz HS2 HRC HRX2 HGXz HGz HG8 HBz HSZz CY
        go_wp2_with (first
          | (at_builtin; refine wpList_appRs wq rfl (.tmp 45) (.tmp 46) rfl a _ us us2 rfl HOq.out A4 X.2.length c4 rfl HL2.out HRCq.out.at_ HS2q.out.slices (by have h1 := HU1.out; have h2 := HL2.out; omega) (by have := HSZq.out; omega) ?_; intro v6 w6 hown6 hgrow6; have HO6 := Lib.hid hown6; have HK6 := Lib.hid (fun (A : Option Addr) (l : List UInt8) (hr : Rd wq wq.heap.size A l) => Rd.grownR hr HOq.out hgrow6); have HA6 := Lib.hid (HAq.out.keptR HOq.out hgrow6); have HBX6 := Lib.hid (OwR.below (w0 := wq) HOq.out (Below.refl a wq) hgrow6 (by have := HSZq.out; omega)); have HB6 := Lib.hid (HBq.out.trans (HBX6.out.mono (by have := HWA.out; omega))); have HGX6 := Lib.hid (HOq.out.box HGXq.out (by decide) hgrow6); have HG86 := Lib.hid (HOq.out.box HG8q.out (by decide) hgrow6); have HG6 := Lib.hid (HOq.out.box HGq.out (by decide) hgrow6); have HSZ6 := Lib.hid (Nat.le_trans HSZq.out hgrow6.size); clear hown6 hgrow6; obtain ⟨y6, r6⟩ := HRN2.out w6 HB6.out)
          | (at_builtin; refine wpList_appSX w6 rfl (.tmp 48) (.tmp 52) rfl a ga na ca _ row rfl HA6.out A3 rn c3 W.heap.size rfl HRNL.out r6 (by have := HNA.out; have h2 := HRNL.out; rw [← h2]; exact this) (by have := HSZ6.out; omega) ?_; intro g7 n7 c7 w7 hown7 hgrow7 hor7; rw [← HF1.out] at hown7; have HA7 := Lib.hid hown7; have HS6 := Lib.hid ((HSq.out.keep HK6.out).append (HS2q.out.keep HK6.out)); have HAW6 := Lib.hid (show ∀ u ∈ us ++ us2, AwV ga u from fun u hu => (List.mem_append.1 hu).elim (HAW.out u) (Q7.out u)); have HO7 := Lib.hid (HO6.out.keptB HA6.out hgrow7); have HS7 := Lib.hid (HS6.out.aside HAW6.out hgrow7); have HRX6 := Lib.hid (HK6.out _ _ HRXq.out); have HRX7 := Lib.hid (HRX6.out.aside Q6.out hgrow7); have HAW7 := Lib.hid (show ∀ u ∈ us ++ us2, AwV g7 u from by rcases hor7 with e | e; exact e ▸ HAW6.out; exact e ▸ HS6.out.aw (Nat.le_refl _)); have HAX7 := Lib.hid (show AwV g7 (.slice A2 X.1.buf.length c2) from by rcases hor7 with e | e; exact e ▸ Q6.out; exact e ▸ HRX6.out.aw (Nat.le_refl _)); have HBX7 := Lib.hid (Ow.below (w0 := w6) HA6.out (Below.refl a w6) hgrow7 (by have := HSZ6.out; omega)); have HB7 := Lib.hid (HB6.out.trans (HBX7.out.mono (by have := HWA.out; omega))); have HGX7 := Lib.hid (HA6.out.box HGX6.out (by decide) hgrow7); have HG87 := Lib.hid (HA6.out.box HG86.out (by decide) hgrow7); have HG7 := Lib.hid (HA6.out.box HG6.out (by decide) hgrow7); have HSZ7 := Lib.hid (Nat.le_trans HSZ6.out hgrow7.size); clear hown7 hgrow7 hor7 y6 r6; obtain ⟨y0, y1, y2⟩ := cG3 HG87.out; obtain ⟨z0, z1, z2⟩ := cG3 HGX7.out; have u0 := fG HGX7.out 0; have u1 := fG HGX7.out 1; have u2 := fG HGX7.out 2))
        have hothY : ∀ k, k ≠ a + 1 + 1 → (set3F w7 (a + 1 + 1) (.slice A2 X.1.buf.length c2) (.int .i64 X.1.skip) (.int .i64 X.1.bad)).heap[k]? = w7.heap[k]? := fun k hk => set3F_other w7 _ k _ _ _ hk
        have hsY := set3F_size w7 (a + 1 + 1) (.slice A2 X.1.buf.length c2) (.int .i64 X.1.skip) (.int .i64 X.1.bad)
        have HAY := Lib.hid (HA7.out.keep3 HGX7.out (by decide) hothY)
        have HOY := Lib.hid (HO7.out.keep3 HGX7.out (by decide) hothY)
        have HSY := Lib.hid (HS7.out.keep (fun A l hr => hr.keepN HGX7.out (noB3 _ _ _ _ _) hothY (Nat.le_of_eq hsY.symm)))
        have HXY := Lib.hid (show BoxFdA (set3F w7 (a + 1 + 1) (.slice A2 X.1.buf.length c2) (.int .i64 X.1.skip) (.int .i64 X.1.bad)) (a + 1 + 1) g7 X.1 from ⟨A2, c2, set3F_same _ _ _ HGX7.out, Q1.out, Q2.out, HRX7.out.keepN HGX7.out (noB3 _ _ _ _ _) hothY (Nat.le_of_eq hsY.symm), HAX7.out⟩)
        have HGY := Lib.hid ((hothY W.heap.size (by have := HWA.out; omega)).trans HG7.out)
        have HBY := Lib.hid (Below.set3F HB7.out (show W.heap.size ≤ a + 1 + 1 by have := HWA.out; omega) (.slice A2 X.1.buf.length c2) (.int .i64 X.1.skip) (.int .i64 X.1.bad))
        have HSZY := Lib.hid (show a + 3 ≤ (set3F w7 (a + 1 + 1) (.slice A2 X.1.buf.length c2) (.int .i64 X.1.skip) (.int .i64 X.1.bad)).heap.size by rw [hsY]; exact HSZ7.out)
        clear hothY hsY
        go_roundw
        case rel => exact ⟨k + 1, us ++ us2, g7, n7, c7, by omega, by go_num, rfl, HAY, HOY, Lib.hid (by rw [HN1.out]; exact HSY.out), HAW7, Lib.hid (by rw [HN1.out]; exact HXY.out), HGY, HBY, HSZY⟩
        case measure => simp [intOf]; omega
    · have hki : ¬ (k : Int) < (m : Int) := by omega
      have hkm : k = m := by omega
      subst hkm
      obtain ⟨A1, c1, hg, q1, q2, q3, q4⟩ := HBX.out
      obtain ⟨hga1, hga2, hna, hnc, hncm, hrall⟩ := HA.out.ge
      have e1 : (ls.take k).flatten = ls.flatten := by rw [HM.out, List.take_length]
      rw [e1] at hrall hna
      have hal : ls.flatten.length ≤ 2000 := by
        have h1 := tot_flat ls ls.length
        rw [List.take_length] at h1
        have h3 := HT.out
        rw [HM.out] at h3
        omega
      have hP : P k = pushF F ls.flatten := HFA.out
      have hus : us.length ≤ 100000 := by
        have h0 := HS.out.1
        have h1 := HPS.out k
        have h3 := HT.out
        rw [HM.out] at h3 h0 h1
        omega
      have C9 := Lib.hid (show Calls Try.prog 17 #[.agg #[.slice A n c, .int .i64 s, .int .i64 b], .slice (some ⟨ga, 0, none⟩) na ca] wr fun e W' => AnsPush W' e (P k).1 (P k).2 ∧ Below wr.heap.size wr W' from by
        rw [hP, hna, HN.out]
        have hF := HFB.out
        have h := fPush_any A l c s b (some ⟨ga, 0, none⟩) ls.flatten ca wr HRR.out HCF.out.1 HCF.out.2 HBB.out (HRA.out wr HBW.out) (by omega) (by rw [← hna]; exact hnc) hncm hrall
        rw [hF]
        exact h)
      unfold AnsPush at C9
      obtain ⟨Ao, co, rfl, ho1, ho2⟩ := HO.out.form
      have hul := HS.out.1
      have HMO := Lib.hid (OwR.mat HO.out HS.out)
      rw [hul] at hus
      have HUL := Lib.hid hul
      obtain ⟨nb, hnb⟩ : ∃ nb, nb = (P k).1.buf.length := ⟨_, rfl⟩
      obtain ⟨nr, hnr⟩ : ∃ nr, nr = (P k).2.length := ⟨_, rfl⟩
      have CS := Lib.hid (fun (A1 A2 : Option Addr) (c1 c2 : Nat) w (h1 : Rd w w.heap.size A1 (P k).1.buf) (h2 : Rd w w.heap.size A2 (P k).1.buf) => refSame8_any A1 A2 (P k).1.buf (P k).1.buf c1 c2 (P k).1.skip (P k).1.bad (P k).1.skip (P k).1.bad w h1 h2)
      have CM := Lib.hid (fun (A1 A2 : Option Addr) (c1 c2 : Nat) w (h1 : Mat w w.heap.size A1 (P k).2) (h2 : Mat w w.heap.size A2 (P k).2) => rows2_any A1 A2 (P k).2 (P k).2 c1 c2 w h1 h2 (by omega) (by omega))
      simp only [and_self, decide_true] at CS CM
      rw [hul, ← hnr]
      rw [← hnb] at hg C9 CS
      rw [← hnr] at C9 CM
      have HGX := Lib.hid hg
      have HRX := Lib.hid q3
      clear hg q1 q2 q3 q4 hga1 hga2 hnc hncm hrall e1 hal hP hul ho1 ho2 hnb hnr hus HA HO HS HAW HBX hna HSZ
      generalize (P k).1.buf = XB at *
      generalize (P k).1.skip = XS at *
      generalize (P k).1.bad = XD at *
      generalize (P k).2 = XR at *
      have HB := HBW
      have G0 := HG
      clear HBW HG
      obtain ⟨g0x, g0y, g0z⟩ := cG3 G0.out
      go_wp2_with fail
      clear g0x g0y g0z
      refine (C9.out).mono ?_
      rintro e w61 ⟨⟨A5, c5, A6, c6, rfl, -, -, h1, -, -, h2⟩, hb⟩
      have nHB := Lib.hid (belG HB.out hb HB.out.size)
      have nHRX := Lib.hid ((HRX.out.below hb (Nat.le_refl _)).more hb.size)
      have nHMO := Lib.hid ((HMO.out.below hb (Nat.le_refl _)).more hb.size)
      have nG0 := Lib.hid (oldG G0.out hb (Nat.le_refl _))
      have nHGX := Lib.hid (oldG HGX.out hb (Nat.le_refl _))
      clear hb
      clear HB HRX HMO G0 HGX
      have HB := nHB
      have HRX := nHRX
      have HMO := nHMO
      have G0 := nG0
      have HGX := nHGX
      clear nHB nHRX nHMO nG0 nHGX
      have RN := Lib.hid h1
      have MN := Lib.hid h2
      clear h1 h2
      obtain ⟨V61, hV61⟩ : ∃ V, V = w61.alloc (.cells #[.slice A5 nb c5, .int .i64 XS, .int .i64 XD] 24) := ⟨_, rfl⟩
      have ha := (Below.refl w61.heap.size w61).alloc (Nat.le_refl _) (.cells #[.slice A5 nb c5, .int .i64 XS, .int .i64 XD] 24)
      have hg := heap_alloc_new w61 (.cells #[.slice A5 nb c5, .int .i64 XS, .int .i64 XD] 24)
      have nHB := Lib.hid (HB.out.alloc HB.out.size (.cells #[.slice A5 nb c5, .int .i64 XS, .int .i64 XD] 24))
      rw [← hV61] at ha hg nHB
      have nHRX := Lib.hid ((HRX.out.below ha (Nat.le_refl _)).more ha.size)
      have nHMO := Lib.hid ((HMO.out.below ha (Nat.le_refl _)).more ha.size)
      have nRN := Lib.hid ((RN.out.below ha (Nat.le_refl _)).more ha.size)
      have nMN := Lib.hid ((MN.out.below ha (Nat.le_refl _)).more ha.size)
      have nG0 := Lib.hid (oldG G0.out ha (Nat.le_refl _))
      have nHGX := Lib.hid (oldG HGX.out ha (Nat.le_refl _))
      obtain ⟨g9, hg9⟩ : ∃ g, g = w61.heap.size := ⟨_, rfl⟩
      rw [← hg9] at hg
      have HXG9 := Lib.hid hg9
      have G9 := Lib.hid hg
      have HV := Lib.hid hV61
      clear ha hg hV61 hg9
      clear HB HRX HMO RN MN G0 HGX
      have HB := nHB
      have HRX := nHRX
      have HMO := nHMO
      have RN := nRN
      have MN := nMN
      have G0 := nG0
      have HGX := nHGX
      clear nHB nHRX nHMO nRN nMN nG0 nHGX
      obtain ⟨hgxx, hgxy, hgxz⟩ := cG3 HGX.out
      rw [HV.out] at hgxx hgxy hgxz
      obtain ⟨g9x, g9y, g9z⟩ := cG3 G9.out
      rw [HV.out] at g9x g9y g9z
      rw [HXG9.out] at g9x g9y g9z
      go_wp2_with fail
      clear hgxx hgxy hgxz g9x g9y g9z
      rw [← HV.out]
      (try rw [← HXG9.out])
      clear HV HXG9
      refine (CS.out A1 A5 c1 c5 _ HRX.out RN.out).mono ?_
      rintro e w62 ⟨rfl, hb⟩
      have nHB := Lib.hid (belG HB.out hb HB.out.size)
      have nHRX := Lib.hid ((HRX.out.below hb (Nat.le_refl _)).more hb.size)
      have nHMO := Lib.hid ((HMO.out.below hb (Nat.le_refl _)).more hb.size)
      have nRN := Lib.hid ((RN.out.below hb (Nat.le_refl _)).more hb.size)
      have nMN := Lib.hid ((MN.out.below hb (Nat.le_refl _)).more hb.size)
      have nG0 := Lib.hid (oldG G0.out hb (Nat.le_refl _))
      have nHGX := Lib.hid (oldG HGX.out hb (Nat.le_refl _))
      have nG9 := Lib.hid (oldG G9.out hb (Nat.le_refl _))
      clear hb
      clear HB HRX HMO RN MN G0 HGX G9
      have HB := nHB
      have HRX := nHRX
      have HMO := nHMO
      have RN := nRN
      have MN := nMN
      have G0 := nG0
      have HGX := nHGX
      have G9 := nG9
      clear nHB nHRX nHMO nRN nMN nG0 nHGX nG9
      go_wp2_with fail
      refine (CM.out Ao A6 co c6 _ HMO.out MN.out).mono ?_
      rintro e w63 ⟨rfl, hb⟩
      have nHB := Lib.hid (belG HB.out hb HB.out.size)
      have nHRX := Lib.hid ((HRX.out.below hb (Nat.le_refl _)).more hb.size)
      have nHMO := Lib.hid ((HMO.out.below hb (Nat.le_refl _)).more hb.size)
      have nRN := Lib.hid ((RN.out.below hb (Nat.le_refl _)).more hb.size)
      have nMN := Lib.hid ((MN.out.below hb (Nat.le_refl _)).more hb.size)
      have nG0 := Lib.hid (oldG G0.out hb (Nat.le_refl _))
      have nHGX := Lib.hid (oldG HGX.out hb (Nat.le_refl _))
      have nG9 := Lib.hid (oldG G9.out hb (Nat.le_refl _))
      clear hb
      clear HB HRX HMO RN MN G0 HGX G9
      have HB := nHB
      have HRX := nHRX
      have HMO := nHMO
      have RN := nRN
      have MN := nMN
      have G0 := nG0
      have HGX := nHGX
      have G9 := nG9
      clear nHB nHRX nHMO nRN nMN nG0 nHGX nG9
      go_wp2_with fail
      go_ret
      exact ⟨by first | rfl | simp, HB.out⟩
end Go.Proofs.Ytcableacihkggaa
