
/- FrameBack's walk. -/
import Derived.Test.YtcableacihkggaaJ24
import Derived.Test.YtcableacihkggaaJ22
import Derived.Test.YtcableacihkggaaJ11
namespace Go.Proofs.Ytcableacihkggaa
open Go.RowKit

set_option maxRecDepth 100000 in
theorem packs_next (ls : List (List UInt8)) (k : Nat) (h : k < ls.length) : packs (ls.take (k + 1)) = packs (ls.take k) ++ packW ls[k] := by
  rw [List.take_succ_eq_append_getElem h]
  unfold packs
  rw [List.flatMap_append]
  simp
set_option maxRecDepth 100000 in
theorem okR_next (ls : List (List UInt8)) (k : Nat) (h : k < ls.length) : okR (ls.take (k + 1)) = okR (ls.take k) ++ (if 1 ≤ ls[k].length ∧ ls[k].length ≤ 1024 then [ls[k]] else []) := by
  rw [List.take_succ_eq_append_getElem h]
  unfold okR
  rw [List.filter_append]
  congr 1
  by_cases h1 : 1 ≤ ls[k].length ∧ ls[k].length ≤ 1024
  · rw [if_pos h1, List.filter_cons_of_pos (by simpa using h1)]
    rfl
  · rw [if_neg h1, List.filter_cons_of_neg (by simpa using h1)]
    rfl
set_option maxRecDepth 100000 in
theorem packs_le (ls : List (List UInt8)) : (packs ls).length ≤ 2 * ls.length + tot ls ls.length := by
  induction ls with
  | nil => simp [packs, tot]
  | cons b l ih =>
    have e : packs (b :: l) = packW b ++ packs l := rfl
    have h2 : (packW b).length ≤ b.length + 2 := by
      by_cases h : 1 ≤ b.length ∧ b.length ≤ 1024
      · rw [(pack_len h).2]; exact Nat.le_refl _
      · rw [show packW b = [] from if_neg h]; simp
    rw [e, List.length_append, List.length_cons]
    have h3 : tot (b :: l) (l.length + 1) = b.length + tot l l.length := by simp [tot]
    rw [h3]
    omega
set_option maxRecDepth 100000 in
theorem packs_mono (ls : List (List UInt8)) (k : Nat) (_h : k ≤ ls.length) : (packs (ls.take k)).length ≤ (packs ls).length := by
  have e : packs ls = packs (ls.take k) ++ packs (ls.drop k) := by
    conv => lhs; rw [← List.take_append_drop k ls]
    unfold packs
    rw [List.flatMap_append]
  rw [e, List.length_append]
  omega
set_option maxRecDepth 100000 in
theorem okR_len (ls : List (List UInt8)) : (okR ls).length ≤ ls.length := List.length_filter_le _ _
set_option maxRecDepth 100000 in
set_option maxHeartbeats 4000000 in
theorem frameBack_walk (B : Option Addr) (ls : List (List UInt8)) (d : Nat) (z : Int) (W : World) (hd : ls.length ≤ d) (hdm : d ≤ 9223372036854775807) (hm : Mat W W.heap.size B ls) (hz : 0 ≤ z ∧ z ≤ 65535) :
    Calls Try.prog 6 #[.slice B ls.length d, .int .u16 z] W fun e W' => e = .returned (.bool true) ∧ Below W.heap.size W W' := by
  have R1 := Lib.hid hm
  have MB := Lib.hid (fun w (h : Below W.heap.size W w) => hm.below h (Nat.le_refl _))
  have LC := Lib.hid (fun w (hB : Below W.heap.size W w) (h : Mat w w.heap.size B ls) => long_at 4000 (by omega) B ls d w h)
  have HPN := Lib.hid (packs_next ls)
  have HON := Lib.hid (okR_next ls)
  have HPM := Lib.hid (packs_mono ls)
  have HOL := Lib.hid (fun k => okR_len (ls.take k))
  have HPL := Lib.hid (packs_le ls)
  obtain ⟨m, hm'⟩ : ∃ m, m = ls.length := ⟨_, rfl⟩
  have HM := Lib.hid hm'
  rw [← hm'] at LC hd ⊢
  clear hm hm'
  have HB := Lib.hid (Below.refl W.heap.size W)
  go_enter Try.func6, Try.ntmps6
  go_wp2_with fail
  refine (shown8_any _).mono ?_
  rintro e w1 ⟨rfl, hb⟩
  have nHB := Lib.hid (belG HB.out hb HB.out.size)
  have nR1 := Lib.hid ((R1.out.below hb (Nat.le_refl _)).more hb.size)
  clear hb
  clear HB R1
  have HB := nHB
  have R1 := nR1
  clear nHB nR1
  go_wp2_with fail
  refine (LC.out _ HB.out R1.out).mono ?_
  rintro e w2 ⟨⟨r, rfl, hr9⟩, rfl⟩
  by_cases hL : (4000 : Int) < r
  case pos =>
    go_wp2_with fail
    go_ret
    exact ⟨rfl, HB.out⟩
  have hT := hr9 (by omega)
  rw [← HM.out] at hT
  have HT := Lib.hid hT
  clear hr9 hT
  go_wp2_with fail
  obtain ⟨V3, hV3⟩ : ∃ Z, Z = (w1.alloc (.cells #[] 5)).alloc (.cells #[] 22) := ⟨_, rfl⟩
  rw [← hV3]
  have HA0 := Lib.hid (show Ow V3 w1.heap.size (.slice (some ⟨w1.heap.size, 0, none⟩) 0 0) [] by rw [hV3]; exact (Ow.made0 w1 (Nat.le_refl _)).alloc _)
  have HO0 := Lib.hid (show OwR V3 w1.heap.size (.slice (some ⟨w1.heap.size + 1, 0, none⟩) 0 0) [] by
    rw [hV3]
    have h := OwR.made0 (w1.alloc (.cells #[] 5)) (base := w1.heap.size) (by simp)
    simpa using h)
  have HB3 := Lib.hid (belG HB.out (show Below w1.heap.size w1 V3 by rw [hV3]; exact ((Below.refl _ _).alloc (Nat.le_refl _) _).alloc (by simp) _) HB.out.size)
  have HZ3 := Lib.hid (show w1.heap.size ≤ V3.heap.size by rw [hV3]; simp; omega)
  have HWA := Lib.hid HB.out.size
  have HP0 := Lib.hid (show packs (ls.take 0) = [] by simp [packs])
  have HOK0 := Lib.hid (show okR (ls.take 0) = [] by simp [okR])
  clear HB R1 hV3
  obtain ⟨a, ha⟩ : ∃ a, a = w1.heap.size := ⟨_, rfl⟩
  rw [← ha] at HA0 HO0 HZ3 HWA ⊢
  clear ha
  go_loopw [8, 7, 6] (fun i vo va wr => ∃ k : Nat, ∃ us : List Value, ∃ ga na ca : Nat, k ≤ m ∧ i = .int .i64 k ∧ va = .slice (some ⟨ga, 0, none⟩) na ca ∧ Hid (Ow wr a (.slice (some ⟨ga, 0, none⟩) na ca) (packs (ls.take k))) ∧ Hid (OwR wr a vo us) ∧ Hid (SEs W us (okR (ls.take k))) ∧ Hid (Below W.heap.size W wr) ∧ Hid (a ≤ wr.heap.size)) (fun i _ _ _ => m - (intOf i).toNat)
  case atStart => exact ⟨0, [], a, 0, 0, Nat.zero_le _, rfl, rfl, Lib.hid (by rw [HP0.out]; exact HA0.out), HO0, Lib.hid (by rw [HOK0.out]; exact SEs.nil), HB3, HZ3⟩
  case round =>
    clear HA0 HO0 HB3 HZ3 HP0 HOK0
    obtain ⟨k, us, ga, na, ca, hk, rfl, rfl, HA, HO, HS, HBW, HSZ⟩ := hrel
    by_cases hlt : k < m
    · have hk1 : k < ls.length := by rw [← HM.out]; exact hlt
      obtain ⟨b1, o1, rfl, hb1, hrow⟩ := MB.out W (Below.refl _ _) (by omega)
      obtain ⟨A3, c3, y0W, h7, h8, h9W⟩ := hrow k hk1
      have hrl : ls[k].length ≤ 4000 := by
        have h1 := tot_succ ls k hk1
        have h2 := tot_mono ls (k + 1) hk1
        have h3 := HT.out
        rw [HM.out] at h3
        omega
      have CO := Lib.hid (fun w (h : Below W.heap.size W w) => fPack_any A3 ls[k] c3 w (by omega) h7 h8 (h9W.go h))
      have HN1 := Lib.hid (HPN.out k hk1)
      have HN2 := Lib.hid (HON.out k hk1)
      have hki : (k : Int) < (m : Int) := by omega
      have hk0 : (0 : Int) ≤ (k : Int) := Int.natCast_nonneg _
      have HY := Lib.hid (fun (w : World) (h : Below W.heap.size W w) => (h.cell (p := ⟨b1, o1 + k, none⟩) hb1).trans y0W)
      have HSE := Lib.hid (show SE W W.heap.size (.slice A3 ls[k].length c3) ls[k] from ⟨A3, c3, rfl, h7, h8, h9W⟩)
      have HPX := Lib.hid (show (packs (ls.take k)).length + (packW ls[k]).length ≤ 100000 by
        have h1 := HPM.out (k + 1) hk1
        have h2 := HPL.out
        have h3 := HT.out
        rw [HM.out] at h3
        rw [HPN.out k hk1, List.length_append] at h1
        omega)
      have HUX := Lib.hid (show us.length ≤ 100000 by
        have h0 := HS.out.1
        have h1 := HOL.out k
        rw [List.length_take] at h1
        have h3 := HT.out
        rw [HM.out] at h3
        omega)
      clear hrow h7 h8 h9W y0W hrl
      generalize ls[k] = row at *
      by_cases hok : 1 ≤ row.length ∧ row.length ≤ 1024
      · rw [show packE row = 0 from if_pos hok, (pack_len hok).2] at CO
        rw [if_pos hok] at HN2
        have HPK := Lib.hid (pack_len hok).2
        have i1 : (0 : Int) < (row.length : Int) := by omega
        have i2 : (row.length : Int) ≤ 1024 := by omega
        have i3 : ((row.length + 2 : Nat) : Int) = (row.length : Int) + 2 := by omega
        have i4 : (0 : Int) ≤ (row.length : Int) := by omega
        clear hok
        generalize hrn : row.length = rn at *
        have y0 := HY.out wr HBW.out
        go_wp2_with fail
        refine (CO.out wr HBW.out).mono ?_
        rintro e wq ⟨⟨A5, c5, rfl, p1, p2, h1⟩, hbq⟩
        have HBq := Lib.hid (belG HBW.out hbq HBW.out.size)
        have HAq := Lib.hid (HA.out.callG hbq)
        have HOq := Lib.hid (HO.out.call hbq)
        have HSZq := Lib.hid (Nat.le_trans HSZ.out hbq.size)
        have HRq := Lib.hid h1
        clear hbq h1 HBW HA HO HSZ CO y0
        have y0 := HY.out wq HBq.out
        go_wp2_with (first
          | (at_builtin; refine wpList_appSX wq rfl (.tmp 71) (.tmp 72) rfl a ga na ca _ (packW row) rfl HAq.out A5 (rn + 2) c5 wq.heap.size rfl HPK.out.symm HRq.out (by have := HPX.out; omega) HSZq.out ?_; intro g7 n7 c7 w7 hown7 hgrow7 hor7; rw [← HN1.out] at hown7; have HA7 := Lib.hid hown7; have HO7 := Lib.hid (HOq.out.keptB HAq.out hgrow7); have HBX7 := Lib.hid (Ow.below (w0 := wq) HAq.out (Below.refl a wq) hgrow7 HSZq.out); have HB7 := Lib.hid (HBq.out.trans (HBX7.out.mono HWA.out)); have HSZ7 := Lib.hid (Nat.le_trans HSZq.out hgrow7.size); clear hown7 hgrow7 hor7 y0; have y0 := HY.out w7 HB7.out)
          | (at_builtin; refine wpList_appR _ rfl (.tmp 74) (.tmp 79) rfl a _ us rfl (by exact HO7.out.alloc _) ⟨w7.heap.size, 0, none⟩ 1 1 rfl [.slice A3 rn c3] rfl (by exact cell_one_new _ _ _) (by intro u hu; have hu' : u = .slice A3 rn c3 := (by simpa using hu); exact ⟨_, _, _, hu'⟩) (by decide) (by have := HUX.out; omega) (by exact le_alloc HSZ7.out _) ?_; intro v6 w6 hown6 hgrow6; have HO6 := Lib.hid hown6; have HA6 := Lib.hid (Ow.keptR (HA7.out.alloc _) (HO7.out.alloc _) hgrow6); have HBX6 := Lib.hid (OwR.below (w0 := w7) (HO7.out.alloc _) ((Below.refl a w7).alloc HSZ7.out _) hgrow6 (le_alloc HSZ7.out _)); have HB6 := Lib.hid (HB7.out.trans (HBX6.out.mono HWA.out)); have HSZ6 := Lib.hid (Nat.le_trans HSZ7.out HBX6.out.size); clear hown6 hgrow6))
        go_roundw
        case rel => exact ⟨k + 1, us ++ [.slice A3 rn c3], g7, n7, c7, by omega, by go_num, rfl, HA6, HO6, Lib.hid (by rw [HN2.out]; exact HS.out.append (SEs.one HSE.out)), HB6, HSZ6⟩
        case measure => simp [intOf]; omega
      · have e0 : packW row = [] := if_neg hok
        rw [show packE row = 1 from if_neg hok, e0] at CO
        rw [if_neg hok, List.append_nil] at HN2
        rw [e0, List.append_nil] at HN1
        have y0 := HY.out wr HBW.out
        by_cases h0 : row.length = 0
        · have i1 : ¬ (0 : Int) < (row.length : Int) := by omega
          clear hok e0 h0 HPX HSE
          generalize hrn : row.length = rn at *
          go_wp2_with fail
          refine (CO.out wr HBW.out).mono ?_
          rintro e wq ⟨⟨A5, c5, rfl, p1, p2, h1⟩, hbq⟩
          have HBq := Lib.hid (belG HBW.out hbq HBW.out.size)
          have HAq := Lib.hid (HA.out.callG hbq)
          have HOq := Lib.hid (HO.out.call hbq)
          have HSZq := Lib.hid (Nat.le_trans HSZ.out hbq.size)
          clear hbq h1 HBW HA HO HSZ CO y0
          have y0 := HY.out wq HBq.out
          go_wp2_with fail
          go_roundw
          case rel => exact ⟨k + 1, us, ga, na, ca, by omega, by go_num, rfl, Lib.hid (by rw [HN1.out]; exact HAq.out), HOq, Lib.hid (by rw [HN2.out]; exact HS.out), HBq, HSZq⟩
          case measure => simp [intOf]; omega
        · have i1 : (0 : Int) < (row.length : Int) := by omega
          have i2 : ¬ (row.length : Int) ≤ 1024 := by omega
          clear hok e0 h0 HPX HSE
          generalize hrn : row.length = rn at *
          go_wp2_with fail
          refine (CO.out wr HBW.out).mono ?_
          rintro e wq ⟨⟨A5, c5, rfl, p1, p2, h1⟩, hbq⟩
          have HBq := Lib.hid (belG HBW.out hbq HBW.out.size)
          have HAq := Lib.hid (HA.out.callG hbq)
          have HOq := Lib.hid (HO.out.call hbq)
          have HSZq := Lib.hid (Nat.le_trans HSZ.out hbq.size)
          clear hbq h1 HBW HA HO HSZ CO y0
          have y0 := HY.out wq HBq.out
          go_wp2_with fail
          go_roundw
          case rel => exact ⟨k + 1, us, ga, na, ca, by omega, by go_num, rfl, Lib.hid (by rw [HN1.out]; exact HAq.out), HOq, Lib.hid (by rw [HN2.out]; exact HS.out), HBq, HSZq⟩
          case measure => simp [intOf]; omega
    · have hki : ¬ (k : Int) < (m : Int) := by omega
      have hkm : k = m := by omega
      subst hkm
      obtain ⟨hga1, hga2, hna, hnc, hncm, hrall⟩ := HA.out.ge
      have e1 : ls.take k = ls := by rw [HM.out, List.take_length]
      rw [e1] at hrall hna HA HS
      have hal : na ≤ 8000 := by
        have h2 := HPL.out
        have h3 := HT.out
        rw [HM.out] at h3
        omega
      obtain ⟨S, hS⟩ : ∃ S, S = packs ls := ⟨_, rfl⟩
      obtain ⟨q, hq⟩ : ∃ q : Nat, q = (z % ((na : Int) + 1)).toNat := ⟨_, rfl⟩
      have hq0 : z % ((na : Int) + 1) = (q : Int) := by have := Int.emod_nonneg z (show ((na : Int) + 1) ≠ 0 by omega); omega
      have hq1 : z.tmod ((na : Int) + 1) = (q : Int) := by rw [Int.tmod_eq_emod_of_nonneg hz.1]; exact hq0
      have hqn : q ≤ na := by have := Int.emod_lt_of_pos z (show (0 : Int) < (na : Int) + 1 by omega); omega
      obtain ⟨X, hX⟩ : ∃ X, X = pushF ⟨[], 0, 0⟩ (S.take q) := ⟨_, rfl⟩
      obtain ⟨Y, hY⟩ : ∃ Y, Y = pushF X.1 (S.drop q) := ⟨_, rfl⟩
      have hR0 : RightFd ⟨[], 0, 0⟩ := ⟨by decide, by decide, fun _ => rfl, .inl (by decide)⟩
      have hRX : RightFd X.1 := by rw [hX]; exact right_push _ hR0
      have hpp : pushF ⟨[], 0, 0⟩ S = (⟨[], 0, 0⟩, okR ls) := by rw [hS]; exact push_packs ls
      have hXY : Y.1 = ⟨[], 0, 0⟩ ∧ X.2 ++ Y.2 = okR ls := by
        have h := pushF_append (S.take q) (S.drop q) ⟨[], 0, 0⟩
        rw [List.take_append_drop, hpp, ← hX, ← hY] at h
        exact ⟨(congrArg Prod.fst h).symm, (congrArg Prod.snd h).symm⟩
      have hpf := push_prefix ls q (by rw [← hna]; exact hqn)
      rw [← hS, ← hX] at hpf
      have hpr := push_rows (S.drop q) hRX
      rw [← hY] at hpr
      have hrx := push_rows (S.take q) hR0
      rw [← hX] at hrx
      rw [← hS] at hrall hna HA
      have hlt1 : (S.take q).length = q := by rw [List.length_take]; omega
      have hld : (S.drop q).length = na - q := by rw [List.length_drop]; omega
      have hol : (okR ls).length ≤ 100000 := by
        have h1 := okR_len ls
        have h3 := HT.out
        rw [HM.out] at h3
        omega
      have C1 := Lib.hid (fun w (h : Below wr.heap.size wr w) => (show Calls Try.prog 17 #[.agg #[.slice none 0 0, .int .i64 0, .int .i64 0], .slice (some ⟨ga, 0, none⟩) q ca] w fun e W' => AnsPushD w.heap.size (.slice none 0 0) (.slice (some ⟨ga, 0, none⟩) q ca) W' e X.1 X.2 ∧ Below w.heap.size w W' from by
        have h9 := fPushD_any none [] 0 0 0 (some ⟨ga, 0, none⟩) (S.take q) ca w hR0 (Nat.le_refl _) (by decide) (by decide) Rd.nil (by omega) (by omega) hncm (rd_takeG (hrall.go h) q)
        rw [hlt1, ← hX] at h9
        exact h9))
      unfold AnsPushD at C1
      clear hki hlt
      have hz1 := hz.1
      have hz2 := hz.2
      have hq2 : (q : Int) ≤ (na : Int) := by omega
      have hq3 : (0 : Int) ≤ (q : Int) := by omega
      have hnc2 : (na : Int) ≤ (ca : Int) := by omega
      have hncm2 : (ca : Int) ≤ 9223372036854775807 := by omega
      have hnai : (na : Int) ≤ 8000 := by omega
      have HNA := Lib.hid hna
      have HLD := Lib.hid hld
      have HPF := Lib.hid hpf
      have HXY := Lib.hid hXY
      have HPR := Lib.hid hpr
      have HRX := Lib.hid hRX
      have HRX0 := Lib.hid hrx
      have HOLN := Lib.hid hol
      have HYD := Lib.hid hY
      have HRA := Lib.hid hrall
      have HQN := Lib.hid hqn
      have HCA := Lib.hid (And.intro hnc hncm)
      clear hR0 hX hY hpp hq hS hna hld hpf hXY hpr hRX hrx hol hlt1 e1 hrall hqn hnc hncm hal hga1 hga2 hz
      go_wp2_with fail
      refine (C1.out wr (Below.refl _ _)).mono ?_
      rintro e w5 ⟨⟨A1, c1, A2, c2, us1, rfl, x1, x2, x3, x4, x5, x6, x7, -⟩, hb5⟩
      obtain ⟨V, hV⟩ : ∃ V, V = w5.alloc (.cells #[.slice A1 X.1.buf.length c1, .int .i64 X.1.skip, .int .i64 X.1.bad] 24) := ⟨_, rfl⟩
      have hal : Below w5.heap.size w5 V := by rw [hV]; exact (Below.refl _ _).alloc (Nat.le_refl _) _
      have hbV : Below wr.heap.size wr V := belG hb5 hal hb5.size
      have hgf : V.heap[w5.heap.size]? = some (.cells #[.slice A1 X.1.buf.length c1, .int .i64 X.1.skip, .int .i64 X.1.bad] 24 (0, 0)) := by rw [hV]; exact heap_alloc_new w5 _
      have HAV := Lib.hid (HRA.out.go hbV)
      have HOV := Lib.hid (HO.out.call hbV)
      have HXV := Lib.hid (x3.go hal)
      have HUV := Lib.hid (x6.go hal)
      have HRV := Lib.hid (x7.go hal)
      have HBV := Lib.hid (belG HBW.out hbV HBW.out.size)
      have HSV := Lib.hid (Nat.le_trans HSZ.out hbV.size)
      have HCX := Lib.hid (And.intro x1 x2)
      have HNR := Lib.hid x4
      obtain ⟨gf, hf⟩ : ∃ g, g = w5.heap.size := ⟨_, rfl⟩
      rw [← hf] at hgf
      have HVE := Lib.hid hV
      have HFE := Lib.hid hf
      have HGF := Lib.hid hgf
      clear x1 x2 x3 x4 x5 x6 x7 hb5 hV hal hbV hgf hf HA HO HBW HSZ C1
      have C2 := Lib.hid (fun w (h : Below V.heap.size V w) (A9 : Option Addr) (cz : Nat) (hz1 : na - q ≤ cz) (hz2 : cz ≤ 9223372036854775807) (hr9 : Rd w w.heap.size A9 (S.drop q)) => (show Calls Try.prog 17 #[.agg #[.slice A1 X.1.buf.length c1, .int .i64 X.1.skip, .int .i64 X.1.bad], .slice A9 (na - q) cz] w fun e W' => AnsPushD w.heap.size (.slice A1 X.1.buf.length c1) (.slice A9 (na - q) cz) W' e Y.1 Y.2 ∧ Below w.heap.size w W' from by
        have h9 := fPushD_any A1 X.1.buf c1 X.1.skip X.1.bad A9 (S.drop q) cz w HRX.out HCX.out.1 HCX.out.2 (by rw [HPF.out.2.2]; decide) (HXV.out.go h) (by rw [HLD.out]; omega) (by rw [HLD.out]; exact hz1) hz2 hr9
        rw [HLD.out] at h9
        have e9 : pushF ⟨X.1.buf, X.1.skip, X.1.bad⟩ (S.drop q) = Y := HYD.out.symm
        rw [e9] at h9
        exact h9))
      rw [HXY.out.1] at C2
      unfold AnsPushD at C2
      have HRC2 := Lib.hid (fun w (h : Below V.heap.size V w) => (show Rd w w.heap.size (if ca = q then some ⟨ga, 0, none⟩ else some ⟨ga, q, none⟩) (S.drop q) from by
        have h1 := (HAV.out.go h).cut q (na - q) ca (by have := HQN.out; have := HNA.out; omega) (by have := HCA.out; have := HNA.out; omega)
        rw [List.take_of_length_le (by rw [HLD.out]; exact Nat.le_refl _)] at h1
        by_cases hc : ca = q
        · rw [if_pos hc] at h1 ⊢; exact h1
        · rw [if_neg hc] at h1 ⊢
          have e : Option.map (fun x => x.add (q * 1)) (some (⟨ga, 0, none⟩ : Addr)) = some ⟨ga, q, none⟩ := by rw [Option.map_some, Addr.add_lit, Nat.zero_add, Nat.mul_one]
          rw [← e]; exact h1))
      simp only [List.length_nil] at C2
      have BB0 := Lib.hid ((Below.refl V.heap.size V).drew)
      have KEEP := Lib.hid (fun w' (h : Below V.heap.size V w') => (show Below V.heap.size V w' ∧ w'.cell? ⟨gf, 0, none⟩ = some (.slice A1 X.1.buf.length c1) ∧ w'.cell? ⟨gf, 1, none⟩ = some (.int .i64 X.1.skip) ∧ w'.cell? ⟨gf, 2, none⟩ = some (.int .i64 X.1.bad) from
        ⟨h, (cG3 (oldG HGF.out h (Nat.le_refl _))).1, (cG3 (oldG HGF.out h (Nat.le_refl _))).2.1, (cG3 (oldG HGF.out h (Nat.le_refl _))).2.2⟩))
      generalize X.1.buf.length = nb at *
      generalize X.1.skip = sk at *
      generalize X.1.bad = bd at *
      by_cases hcq : ca = q
      · have HZ1 := Lib.hid (show na - q ≤ 0 by have := HCA.out; have := HNA.out; omega)
        have HZ2 := Lib.hid (show 0 ≤ 9223372036854775807 by omega)
        simp only [if_pos hcq] at HRC2
        subst hcq
        go_wp2_with fail
        rw [← HVE.out, ← HFE.out]
        clear HVE HFE
        have BA := Lib.hid (((Below.refl V.heap.size V).alloc (Nat.le_refl _) (.cells #[.slice none 0 0, .int .i64 0, .int .i64 0] 24)).drew)
        go_region_held3 (fun w' => Below V.heap.size V w' ∧ w'.cell? ⟨gf, 0, none⟩ = some (.slice A1 nb c1) ∧ w'.cell? ⟨gf, 1, none⟩ = some (.int .i64 sk) ∧ w'.cell? ⟨gf, 2, none⟩ = some (.int .i64 bd))
          (first | with_reducible exact KEEP.out _ BB0.out | with_reducible exact KEEP.out _ BB1.out | with_reducible exact KEEP.out _ BA.out | with_reducible exact KEEP.out _ BC.out | with_reducible exact KEEP.out _ BD.out | with_reducible exact KEEP.out _ BE.out)
          (first
          | (go_at_call 17; (with_reducible refine (C2.out _ BB0.out _ _ HZ1.out HZ2.out (HRC2.out _ BB0.out)).mono ?_); rintro e wz ⟨⟨A5, c5, A4, c4, us2, rfl, -, -, -, q4, -, q6, q7, -⟩, hb⟩; have BB1 := Lib.hid (belG BB0.out hb BB0.out.size); have BC := Lib.hid (BB1.out.alloc BB1.out.size (.cells #[.slice none 0 0, .int .i64 0, .int .i64 0] 24)); have BD := Lib.hid (BB1.out.alloc BB1.out.size (.cells #[.slice A5 0 c5, .int .i64 0, .int .i64 0] 24)); have Q6 := Lib.hid q6; have Q7 := Lib.hid q7; clear hb q4 q6 q7)
          | (go_at_call 17; (with_reducible refine (C2.out _ BA.out _ _ HZ1.out HZ2.out (HRC2.out _ BA.out)).mono ?_); rintro e wz ⟨⟨A5, c5, A4, c4, us2, rfl, -, -, -, q4, -, q6, q7, -⟩, hb⟩; have BB1 := Lib.hid (belG BA.out hb BA.out.size); have hz := (hb.block V.heap.size (by simp)).trans (heap_alloc_new V (.cells #[.slice none 0 0, .int .i64 0, .int .i64 0] 24)); have HZ8 := Lib.hid hz; obtain ⟨e0, e1, e2⟩ := cG3 hz; have f0 := fG hz 0; have f1 := fG hz 1; have f2 := fG hz 2; clear hz; have BE := Lib.hid (((BB1.out.setCell (p := ⟨V.heap.size, 0, none⟩) (Nat.le_refl _) (.slice A5 0 c5)).setCell (p := ⟨V.heap.size, 1, none⟩) (Nat.le_refl _) (.int .i64 0)).setCell (p := ⟨V.heap.size, 2, none⟩) (Nat.le_refl _) (.int .i64 0)); have Q6 := Lib.hid q6; have Q7 := Lib.hid q7; clear hb q4 q6 q7))
        · obtain ⟨Zw, hZw⟩ : ∃ Z, Z = wz.alloc (.cells #[.slice A5 0 c5, .int .i64 0, .int .i64 0] 24) := ⟨_, rfl⟩
          have hal : Below wz.heap.size wz Zw := by rw [hZw]; exact (Below.refl wz.heap.size wz).alloc (Nat.le_refl _) _
          have hg8 : Zw.heap[wz.heap.size]? = some (.cells #[.slice A5 0 c5, .int .i64 0, .int .i64 0] 24 (0, 0)) := by rw [hZw]; exact heap_alloc_new wz _
          rw [← hZw]
          have hwz : Below V.heap.size V Zw := belG BB1.out hal BB1.out.size
          have HS2 := Lib.hid (Q6.out.go hal)
          have HRC := Lib.hid (Q7.out.go hal)
          obtain ⟨g8, hg⟩ : ∃ g, g = wz.heap.size := ⟨_, rfl⟩
          rw [← hg] at hg8 ⊢
          clear hZw hal hg
          have HOz := Lib.hid (HOV.out.call hwz)
          have HUz := Lib.hid (HUV.out.go hwz)
          have HRz := Lib.hid (HRV.out.go hwz)
          have HFz := Lib.hid (oldG HGF.out hwz (Nat.le_refl _))
          have HBz := Lib.hid (belG HBV.out hwz HBV.out.size)
          have HSz := Lib.hid (Nat.le_trans HSV.out hwz.size)
          have HG8 := Lib.hid hg8
          clear hwz hg8 BB0 BB1 BA KEEP C2 HOV HUV HRV HBV HSV HXV HGF Q6 Q7
          obtain ⟨Ao, co, rfl, ho1, ho2⟩ := HOz.out.form
          have hul := HS.out.1
          have HUS := Lib.hid hul
          have HMO := Lib.hid (OwR.mat HOz.out (HS.out.go HBz.out))
          have HL1 := Lib.hid HUz.out.1.symm
          have HL2 := Lib.hid HS2.out.1.symm
          have hsm : X.2.length + Y.2.length = (okR ls).length := by rw [← HXY.out.2, List.length_append]
          have HSM := Lib.hid hsm
          have CA1 := Lib.hid (fun (o : Oper) (a : Act) (Kk : Act → World → Prop) (Q : Exit → Act → World → Prop) (g : Nat) (w : World) (ho : o.op = .call { callee := .builtin .append, args := #[.tmp 105, .tmp 106], argTypes := #[35, 35] }) (h1 : a.eval (.tmp 105) = .slice (some ⟨g, 0, none⟩) 0 0) (h2 : a.eval (.tmp 106) = .slice A2 X.2.length c2) (hg : OwR w Zw.heap.size (.slice (some ⟨g, 0, none⟩) 0 0) []) (hb : Below Zw.heap.size Zw w) (hK : ∀ v' w', OwR w' Zw.heap.size v' us1 → Below Zw.heap.size Zw w' → Kk (a.put o.dst v') w') =>
            (wp_appRs w (.tmp 105) (.tmp 106) ho Zw.heap.size _ [] us1 h1 hg A2 X.2.length c2 h2 HL1.out (HRz.out.go hb).at_ HUz.out.slices (by have h1 := HL1.out; have h2 := HSM.out; have h3 := HOLN.out; simp only [List.length_nil]; omega) hb.size (fun v' w' p1 p2 => hK v' w' p1 (hb.trans p2)) : o.wp Try.prog a w Kk Q))
          have CA2 := Lib.hid (fun (o : Oper) (a : Act) (Kk : Act → World → Prop) (Q : Exit → Act → World → Prop) (v : Value) (w : World) (ho : o.op = .call { callee := .builtin .append, args := #[.tmp 107, .tmp 108], argTypes := #[35, 35] }) (h1 : a.eval (.tmp 107) = v) (h2 : a.eval (.tmp 108) = .slice A4 Y.2.length c4) (hg : OwR w Zw.heap.size v us1) (hb : Below Zw.heap.size Zw w) (hK : ∀ A' c' w', Mat w' w'.heap.size A' (okR ls) → Below Zw.heap.size Zw w' → Kk (a.put o.dst (.slice A' (okR ls).length c')) w') =>
            (wp_appRs w (.tmp 107) (.tmp 108) ho Zw.heap.size v us1 us2 h1 hg A4 Y.2.length c4 h2 HL2.out (HRC.out.go hb).at_ HS2.out.slices (by have h1 := HL1.out; have h5 := HL2.out; have h2 := HSM.out; have h3 := HOLN.out; omega) hb.size (fun v' w' p1 p2 => by
              have hb2 := hb.trans p2
              obtain ⟨A', c', e, -, -⟩ := p1.form
              have hln : (us1 ++ us2).length = (okR ls).length := by rw [List.length_append, ← HL1.out, ← HL2.out]; exact HSM.out
              rw [hln] at e
              subst e
              refine hK A' c' w' ?_ hb2
              have hs := (HUz.out.go hb2).append (HS2.out.go hb2)
              rw [HXY.out.2] at hs
              exact OwR.mat p1 hs) : o.wp Try.prog a w Kk Q))
          have CR := Lib.hid (fun (A' : Option Addr) (c' : Nat) w (h1 : Mat w w.heap.size A' (okR ls)) (hb : Below Zw.heap.size Zw w) => rows2_any A' Ao (okR ls) (okR ls) c' co w h1 ((HMO.out.below hb (Nat.le_refl _)).more hb.size) HOLN.out HOLN.out)
          have CS := Lib.hid (fun w => refSame8_any A5 none [] [] c5 0 0 0 0 0 w Rd.nil Rd.nil)
          have CP := Lib.hid (fun w (hb : Below Zw.heap.size Zw w) => packed_any A2 X.2 c2 w (by have h2 := HSM.out; have h3 := HOLN.out; omega) (by have h1 := HPF.out.1; omega) (RC.mat (HRz.out.go hb) (HUz.out.go hb)))
          simp only [and_self, decide_true, List.length_nil] at CR CS
          rw [hul]
          have hsi : (nb : Int) + ((packN X.2 : Nat) : Int) = (ca : Int) := by have h1 := HPF.out.1; omega
          have BB0 := Lib.hid ((Below.refl Zw.heap.size Zw).drew)
          have BA := Lib.hid (((Below.refl Zw.heap.size Zw).alloc (Nat.le_refl _) (.cells #[] 22)).drew)
          have HOA := Lib.hid (show OwR (Zw.alloc (.cells #[] 22)).drew Zw.heap.size (.slice (some ⟨Zw.heap.size, 0, none⟩) 0 0) [] from OwR.made0 Zw (Nat.le_refl _))
          have KEEP := Lib.hid (fun w' (h : Below Zw.heap.size Zw w') => (show Below Zw.heap.size Zw w' ∧ w'.cell? ⟨g8, 0, none⟩ = some (.slice A5 0 c5) ∧ w'.cell? ⟨g8, 1, none⟩ = some (.int .i64 0) ∧ w'.cell? ⟨g8, 2, none⟩ = some (.int .i64 0) ∧ w'.cell? ⟨gf, 0, none⟩ = some (.slice A1 nb c1) from
            ⟨h, (cG3 (oldG HG8.out h (Nat.le_refl _))).1, (cG3 (oldG HG8.out h (Nat.le_refl _))).2.1, (cG3 (oldG HG8.out h (Nat.le_refl _))).2.2, (cG3 (oldG HFz.out h (Nat.le_refl _))).1⟩))
          clear hsm hul ho1 ho2
          generalize packN X.2 = pn at *
          generalize X.2.length = r1 at *
          generalize Y.2.length = r2 at *
          generalize (okR ls).length = nr at *
          go_wp2_with fail
          go_region_held3 (fun w' => Below Zw.heap.size Zw w' ∧ w'.cell? ⟨g8, 0, none⟩ = some (.slice A5 0 c5) ∧ w'.cell? ⟨g8, 1, none⟩ = some (.int .i64 0) ∧ w'.cell? ⟨g8, 2, none⟩ = some (.int .i64 0) ∧ w'.cell? ⟨gf, 0, none⟩ = some (.slice A1 nb c1))
            (first | with_reducible exact KEEP.out _ BB0.out | with_reducible exact KEEP.out _ BA.out | with_reducible exact KEEP.out _ BB1.out | with_reducible exact KEEP.out _ BB2.out | with_reducible exact KEEP.out _ BB3.out | with_reducible exact KEEP.out _ BB4.out)
            (first
            | (rw [if_pos (by rfl)]; refine CA1.out _ _ _ _ _ _ (by rfl) (by rfl) (by rfl) (by with_reducible exact HOA.out) (by with_reducible exact BA.out) ?_; intro vA wA hoA hbA; have BB1 := Lib.hid hbA; have HO1 := Lib.hid hoA; clear hoA hbA)
            | (rw [if_pos (by rfl)]; refine CA2.out _ _ _ _ vA _ (by rfl) (by rfl) (by rfl) (by with_reducible exact HO1.out) (by with_reducible exact BB1.out) ?_; intro AB cB wB hmB hbB; have BB2 := Lib.hid hbB; have HM2 := Lib.hid hmB; clear hmB hbB)
            | (go_at_call 19; (with_reducible refine (CR.out _ _ _ HM2.out BB2.out).mono ?_); rintro e wC ⟨rfl, hbC⟩; have BB3 := Lib.hid (belG BB2.out hbC BB2.out.size); clear hbC)
            | (go_at_call 16; (with_reducible refine (CS.out _).mono ?_); rintro e wD ⟨rfl, hbD⟩; have BB4 := Lib.hid (belG BB3.out hbD BB3.out.size); clear hbD)
            | (go_at_call 21; (with_reducible refine (CP.out _ BB4.out).mono ?_); rintro e wE ⟨rfl, rfl⟩))
          go_wp2_with fail
          go_ret
          exact ⟨by rw [show IntKind.i64.wrap ((ca : Nat) : Int) = ((ca : Nat) : Int) from IntWalk.i64_in _ (by omega)]; simp, belG HBz.out BB4.out HBz.out.size⟩
        · obtain ⟨Zw, hZw⟩ : ∃ Z, Z = set3F wz V.heap.size (.slice A5 0 c5) (.int .i64 0) (.int .i64 0) := ⟨_, rfl⟩
          have hg8 : Zw.heap[V.heap.size]? = some (.cells #[.slice A5 0 c5, .int .i64 0, .int .i64 0] 24 (0, 0)) := by rw [hZw]; exact set3F_same _ _ _ HZ8.out
          have hoth : ∀ k, k ≠ V.heap.size → Zw.heap[k]? = wz.heap[k]? := fun k hk => by rw [hZw]; exact set3F_other wz _ k _ _ _ hk
          have hszz : Zw.heap.size = wz.heap.size := by rw [hZw]; exact set3F_size _ _ _ _ _
          have hwz : Below V.heap.size V Zw := by rw [hZw]; exact Below.set3F BB1.out (Nat.le_refl _) _ _ _
          have HS2 := Lib.hid (Q6.out.keep (fun A l hr => hr.keepN HZ8.out (noB3 _ _ _ _ _) hoth (by omega)))
          have HRC := Lib.hid (Q7.out.keepZ Q6.out (fun r hr => (HPR.out r hr).1) HZ8.out hoth (by omega))
          obtain ⟨g8, hg⟩ : ∃ g, g = V.heap.size := ⟨_, rfl⟩
          show Exit.then _ _ Exit.normal _ (set3F wz V.heap.size (.slice A5 0 c5) (.int .i64 0) (.int .i64 0))
          rw [← hZw]
          rw [← hg] at hg8
          rw [show (V.heap.size : Nat) = g8 from hg.symm]
          clear hZw hoth hszz e0 e1 e2 f0 f1 f2 BE HZ8 hg
          have HOz := Lib.hid (HOV.out.call hwz)
          have HUz := Lib.hid (HUV.out.go hwz)
          have HRz := Lib.hid (HRV.out.go hwz)
          have HFz := Lib.hid (oldG HGF.out hwz (Nat.le_refl _))
          have HBz := Lib.hid (belG HBV.out hwz HBV.out.size)
          have HSz := Lib.hid (Nat.le_trans HSV.out hwz.size)
          have HG8 := Lib.hid hg8
          clear hwz hg8 BB0 BB1 BA KEEP C2 HOV HUV HRV HBV HSV HXV HGF Q6 Q7
          obtain ⟨Ao, co, rfl, ho1, ho2⟩ := HOz.out.form
          have hul := HS.out.1
          have HUS := Lib.hid hul
          have HMO := Lib.hid (OwR.mat HOz.out (HS.out.go HBz.out))
          have HL1 := Lib.hid HUz.out.1.symm
          have HL2 := Lib.hid HS2.out.1.symm
          have hsm : X.2.length + Y.2.length = (okR ls).length := by rw [← HXY.out.2, List.length_append]
          have HSM := Lib.hid hsm
          have CA1 := Lib.hid (fun (o : Oper) (a : Act) (Kk : Act → World → Prop) (Q : Exit → Act → World → Prop) (g : Nat) (w : World) (ho : o.op = .call { callee := .builtin .append, args := #[.tmp 105, .tmp 106], argTypes := #[35, 35] }) (h1 : a.eval (.tmp 105) = .slice (some ⟨g, 0, none⟩) 0 0) (h2 : a.eval (.tmp 106) = .slice A2 X.2.length c2) (hg : OwR w Zw.heap.size (.slice (some ⟨g, 0, none⟩) 0 0) []) (hb : Below Zw.heap.size Zw w) (hK : ∀ v' w', OwR w' Zw.heap.size v' us1 → Below Zw.heap.size Zw w' → Kk (a.put o.dst v') w') =>
            (wp_appRs w (.tmp 105) (.tmp 106) ho Zw.heap.size _ [] us1 h1 hg A2 X.2.length c2 h2 HL1.out (HRz.out.go hb).at_ HUz.out.slices (by have h1 := HL1.out; have h2 := HSM.out; have h3 := HOLN.out; simp only [List.length_nil]; omega) hb.size (fun v' w' p1 p2 => hK v' w' p1 (hb.trans p2)) : o.wp Try.prog a w Kk Q))
          have CA2 := Lib.hid (fun (o : Oper) (a : Act) (Kk : Act → World → Prop) (Q : Exit → Act → World → Prop) (v : Value) (w : World) (ho : o.op = .call { callee := .builtin .append, args := #[.tmp 107, .tmp 108], argTypes := #[35, 35] }) (h1 : a.eval (.tmp 107) = v) (h2 : a.eval (.tmp 108) = .slice A4 Y.2.length c4) (hg : OwR w Zw.heap.size v us1) (hb : Below Zw.heap.size Zw w) (hK : ∀ A' c' w', Mat w' w'.heap.size A' (okR ls) → Below Zw.heap.size Zw w' → Kk (a.put o.dst (.slice A' (okR ls).length c')) w') =>
            (wp_appRs w (.tmp 107) (.tmp 108) ho Zw.heap.size v us1 us2 h1 hg A4 Y.2.length c4 h2 HL2.out (HRC.out.go hb).at_ HS2.out.slices (by have h1 := HL1.out; have h5 := HL2.out; have h2 := HSM.out; have h3 := HOLN.out; omega) hb.size (fun v' w' p1 p2 => by
              have hb2 := hb.trans p2
              obtain ⟨A', c', e, -, -⟩ := p1.form
              have hln : (us1 ++ us2).length = (okR ls).length := by rw [List.length_append, ← HL1.out, ← HL2.out]; exact HSM.out
              rw [hln] at e
              subst e
              refine hK A' c' w' ?_ hb2
              have hs := (HUz.out.go hb2).append (HS2.out.go hb2)
              rw [HXY.out.2] at hs
              exact OwR.mat p1 hs) : o.wp Try.prog a w Kk Q))
          have CR := Lib.hid (fun (A' : Option Addr) (c' : Nat) w (h1 : Mat w w.heap.size A' (okR ls)) (hb : Below Zw.heap.size Zw w) => rows2_any A' Ao (okR ls) (okR ls) c' co w h1 ((HMO.out.below hb (Nat.le_refl _)).more hb.size) HOLN.out HOLN.out)
          have CS := Lib.hid (fun w => refSame8_any A5 none [] [] c5 0 0 0 0 0 w Rd.nil Rd.nil)
          have CP := Lib.hid (fun w (hb : Below Zw.heap.size Zw w) => packed_any A2 X.2 c2 w (by have h2 := HSM.out; have h3 := HOLN.out; omega) (by have h1 := HPF.out.1; omega) (RC.mat (HRz.out.go hb) (HUz.out.go hb)))
          simp only [and_self, decide_true, List.length_nil] at CR CS
          rw [hul]
          have hsi : (nb : Int) + ((packN X.2 : Nat) : Int) = (ca : Int) := by have h1 := HPF.out.1; omega
          have BB0 := Lib.hid ((Below.refl Zw.heap.size Zw).drew)
          have BA := Lib.hid (((Below.refl Zw.heap.size Zw).alloc (Nat.le_refl _) (.cells #[] 22)).drew)
          have HOA := Lib.hid (show OwR (Zw.alloc (.cells #[] 22)).drew Zw.heap.size (.slice (some ⟨Zw.heap.size, 0, none⟩) 0 0) [] from OwR.made0 Zw (Nat.le_refl _))
          have KEEP := Lib.hid (fun w' (h : Below Zw.heap.size Zw w') => (show Below Zw.heap.size Zw w' ∧ w'.cell? ⟨g8, 0, none⟩ = some (.slice A5 0 c5) ∧ w'.cell? ⟨g8, 1, none⟩ = some (.int .i64 0) ∧ w'.cell? ⟨g8, 2, none⟩ = some (.int .i64 0) ∧ w'.cell? ⟨gf, 0, none⟩ = some (.slice A1 nb c1) from
            ⟨h, (cG3 (oldG HG8.out h (Nat.le_refl _))).1, (cG3 (oldG HG8.out h (Nat.le_refl _))).2.1, (cG3 (oldG HG8.out h (Nat.le_refl _))).2.2, (cG3 (oldG HFz.out h (Nat.le_refl _))).1⟩))
          clear hsm hul ho1 ho2
          generalize packN X.2 = pn at *
          generalize X.2.length = r1 at *
          generalize Y.2.length = r2 at *
          generalize (okR ls).length = nr at *
          go_wp2_with fail
          go_region_held3 (fun w' => Below Zw.heap.size Zw w' ∧ w'.cell? ⟨g8, 0, none⟩ = some (.slice A5 0 c5) ∧ w'.cell? ⟨g8, 1, none⟩ = some (.int .i64 0) ∧ w'.cell? ⟨g8, 2, none⟩ = some (.int .i64 0) ∧ w'.cell? ⟨gf, 0, none⟩ = some (.slice A1 nb c1))
            (first | with_reducible exact KEEP.out _ BB0.out | with_reducible exact KEEP.out _ BA.out | with_reducible exact KEEP.out _ BB1.out | with_reducible exact KEEP.out _ BB2.out | with_reducible exact KEEP.out _ BB3.out | with_reducible exact KEEP.out _ BB4.out)
            (first
            | (rw [if_pos (by rfl)]; refine CA1.out _ _ _ _ _ _ (by rfl) (by rfl) (by rfl) (by with_reducible exact HOA.out) (by with_reducible exact BA.out) ?_; intro vA wA hoA hbA; have BB1 := Lib.hid hbA; have HO1 := Lib.hid hoA; clear hoA hbA)
            | (rw [if_pos (by rfl)]; refine CA2.out _ _ _ _ vA _ (by rfl) (by rfl) (by rfl) (by with_reducible exact HO1.out) (by with_reducible exact BB1.out) ?_; intro AB cB wB hmB hbB; have BB2 := Lib.hid hbB; have HM2 := Lib.hid hmB; clear hmB hbB)
            | (go_at_call 19; (with_reducible refine (CR.out _ _ _ HM2.out BB2.out).mono ?_); rintro e wC ⟨rfl, hbC⟩; have BB3 := Lib.hid (belG BB2.out hbC BB2.out.size); clear hbC)
            | (go_at_call 16; (with_reducible refine (CS.out _).mono ?_); rintro e wD ⟨rfl, hbD⟩; have BB4 := Lib.hid (belG BB3.out hbD BB3.out.size); clear hbD)
            | (go_at_call 21; (with_reducible refine (CP.out _ BB4.out).mono ?_); rintro e wE ⟨rfl, rfl⟩))
          go_wp2_with fail
          go_ret
          exact ⟨by rw [show IntKind.i64.wrap ((ca : Nat) : Int) = ((ca : Nat) : Int) from IntWalk.i64_in _ (by omega)]; simp, belG HBz.out BB4.out HBz.out.size⟩
      · have HZ1 := Lib.hid (show na - q ≤ ca - q by have := HCA.out; have := HNA.out; omega)
        have HZ2 := Lib.hid (show ca - q ≤ 9223372036854775807 by have := HCA.out; omega)
        simp only [if_neg hcq] at HRC2
        go_wp2_with fail
        rw [← HVE.out, ← HFE.out]
        clear HVE HFE
        have BA := Lib.hid (((Below.refl V.heap.size V).alloc (Nat.le_refl _) (.cells #[.slice none 0 0, .int .i64 0, .int .i64 0] 24)).drew)
        go_region_held3 (fun w' => Below V.heap.size V w' ∧ w'.cell? ⟨gf, 0, none⟩ = some (.slice A1 nb c1) ∧ w'.cell? ⟨gf, 1, none⟩ = some (.int .i64 sk) ∧ w'.cell? ⟨gf, 2, none⟩ = some (.int .i64 bd))
          (first | with_reducible exact KEEP.out _ BB0.out | with_reducible exact KEEP.out _ BB1.out | with_reducible exact KEEP.out _ BA.out | with_reducible exact KEEP.out _ BC.out | with_reducible exact KEEP.out _ BD.out | with_reducible exact KEEP.out _ BE.out)
          (first
          | (go_at_call 17; (with_reducible refine (C2.out _ BB0.out _ _ HZ1.out HZ2.out (HRC2.out _ BB0.out)).mono ?_); rintro e wz ⟨⟨A5, c5, A4, c4, us2, rfl, -, -, -, q4, -, q6, q7, -⟩, hb⟩; have BB1 := Lib.hid (belG BB0.out hb BB0.out.size); have BC := Lib.hid (BB1.out.alloc BB1.out.size (.cells #[.slice none 0 0, .int .i64 0, .int .i64 0] 24)); have BD := Lib.hid (BB1.out.alloc BB1.out.size (.cells #[.slice A5 0 c5, .int .i64 0, .int .i64 0] 24)); have Q6 := Lib.hid q6; have Q7 := Lib.hid q7; clear hb q4 q6 q7)
          | (go_at_call 17; (with_reducible refine (C2.out _ BA.out _ _ HZ1.out HZ2.out (HRC2.out _ BA.out)).mono ?_); rintro e wz ⟨⟨A5, c5, A4, c4, us2, rfl, -, -, -, q4, -, q6, q7, -⟩, hb⟩; have BB1 := Lib.hid (belG BA.out hb BA.out.size); have hz := (hb.block V.heap.size (by simp)).trans (heap_alloc_new V (.cells #[.slice none 0 0, .int .i64 0, .int .i64 0] 24)); have HZ8 := Lib.hid hz; obtain ⟨e0, e1, e2⟩ := cG3 hz; have f0 := fG hz 0; have f1 := fG hz 1; have f2 := fG hz 2; clear hz; have BE := Lib.hid (((BB1.out.setCell (p := ⟨V.heap.size, 0, none⟩) (Nat.le_refl _) (.slice A5 0 c5)).setCell (p := ⟨V.heap.size, 1, none⟩) (Nat.le_refl _) (.int .i64 0)).setCell (p := ⟨V.heap.size, 2, none⟩) (Nat.le_refl _) (.int .i64 0)); have Q6 := Lib.hid q6; have Q7 := Lib.hid q7; clear hb q4 q6 q7))
        · obtain ⟨Zw, hZw⟩ : ∃ Z, Z = wz.alloc (.cells #[.slice A5 0 c5, .int .i64 0, .int .i64 0] 24) := ⟨_, rfl⟩
          have hal : Below wz.heap.size wz Zw := by rw [hZw]; exact (Below.refl wz.heap.size wz).alloc (Nat.le_refl _) _
          have hg8 : Zw.heap[wz.heap.size]? = some (.cells #[.slice A5 0 c5, .int .i64 0, .int .i64 0] 24 (0, 0)) := by rw [hZw]; exact heap_alloc_new wz _
          rw [← hZw]
          have hwz : Below V.heap.size V Zw := belG BB1.out hal BB1.out.size
          have HS2 := Lib.hid (Q6.out.go hal)
          have HRC := Lib.hid (Q7.out.go hal)
          obtain ⟨g8, hg⟩ : ∃ g, g = wz.heap.size := ⟨_, rfl⟩
          rw [← hg] at hg8 ⊢
          clear hZw hal hg
          have HOz := Lib.hid (HOV.out.call hwz)
          have HUz := Lib.hid (HUV.out.go hwz)
          have HRz := Lib.hid (HRV.out.go hwz)
          have HFz := Lib.hid (oldG HGF.out hwz (Nat.le_refl _))
          have HBz := Lib.hid (belG HBV.out hwz HBV.out.size)
          have HSz := Lib.hid (Nat.le_trans HSV.out hwz.size)
          have HG8 := Lib.hid hg8
          clear hwz hg8 BB0 BB1 BA KEEP C2 HOV HUV HRV HBV HSV HXV HGF Q6 Q7
          obtain ⟨Ao, co, rfl, ho1, ho2⟩ := HOz.out.form
          have hul := HS.out.1
          have HUS := Lib.hid hul
          have HMO := Lib.hid (OwR.mat HOz.out (HS.out.go HBz.out))
          have HL1 := Lib.hid HUz.out.1.symm
          have HL2 := Lib.hid HS2.out.1.symm
          have hsm : X.2.length + Y.2.length = (okR ls).length := by rw [← HXY.out.2, List.length_append]
          have HSM := Lib.hid hsm
          have CA1 := Lib.hid (fun (o : Oper) (a : Act) (Kk : Act → World → Prop) (Q : Exit → Act → World → Prop) (g : Nat) (w : World) (ho : o.op = .call { callee := .builtin .append, args := #[.tmp 105, .tmp 106], argTypes := #[35, 35] }) (h1 : a.eval (.tmp 105) = .slice (some ⟨g, 0, none⟩) 0 0) (h2 : a.eval (.tmp 106) = .slice A2 X.2.length c2) (hg : OwR w Zw.heap.size (.slice (some ⟨g, 0, none⟩) 0 0) []) (hb : Below Zw.heap.size Zw w) (hK : ∀ v' w', OwR w' Zw.heap.size v' us1 → Below Zw.heap.size Zw w' → Kk (a.put o.dst v') w') =>
            (wp_appRs w (.tmp 105) (.tmp 106) ho Zw.heap.size _ [] us1 h1 hg A2 X.2.length c2 h2 HL1.out (HRz.out.go hb).at_ HUz.out.slices (by have h1 := HL1.out; have h2 := HSM.out; have h3 := HOLN.out; simp only [List.length_nil]; omega) hb.size (fun v' w' p1 p2 => hK v' w' p1 (hb.trans p2)) : o.wp Try.prog a w Kk Q))
          have CA2 := Lib.hid (fun (o : Oper) (a : Act) (Kk : Act → World → Prop) (Q : Exit → Act → World → Prop) (v : Value) (w : World) (ho : o.op = .call { callee := .builtin .append, args := #[.tmp 107, .tmp 108], argTypes := #[35, 35] }) (h1 : a.eval (.tmp 107) = v) (h2 : a.eval (.tmp 108) = .slice A4 Y.2.length c4) (hg : OwR w Zw.heap.size v us1) (hb : Below Zw.heap.size Zw w) (hK : ∀ A' c' w', Mat w' w'.heap.size A' (okR ls) → Below Zw.heap.size Zw w' → Kk (a.put o.dst (.slice A' (okR ls).length c')) w') =>
            (wp_appRs w (.tmp 107) (.tmp 108) ho Zw.heap.size v us1 us2 h1 hg A4 Y.2.length c4 h2 HL2.out (HRC.out.go hb).at_ HS2.out.slices (by have h1 := HL1.out; have h5 := HL2.out; have h2 := HSM.out; have h3 := HOLN.out; omega) hb.size (fun v' w' p1 p2 => by
              have hb2 := hb.trans p2
              obtain ⟨A', c', e, -, -⟩ := p1.form
              have hln : (us1 ++ us2).length = (okR ls).length := by rw [List.length_append, ← HL1.out, ← HL2.out]; exact HSM.out
              rw [hln] at e
              subst e
              refine hK A' c' w' ?_ hb2
              have hs := (HUz.out.go hb2).append (HS2.out.go hb2)
              rw [HXY.out.2] at hs
              exact OwR.mat p1 hs) : o.wp Try.prog a w Kk Q))
          have CR := Lib.hid (fun (A' : Option Addr) (c' : Nat) w (h1 : Mat w w.heap.size A' (okR ls)) (hb : Below Zw.heap.size Zw w) => rows2_any A' Ao (okR ls) (okR ls) c' co w h1 ((HMO.out.below hb (Nat.le_refl _)).more hb.size) HOLN.out HOLN.out)
          have CS := Lib.hid (fun w => refSame8_any A5 none [] [] c5 0 0 0 0 0 w Rd.nil Rd.nil)
          have CP := Lib.hid (fun w (hb : Below Zw.heap.size Zw w) => packed_any A2 X.2 c2 w (by have h2 := HSM.out; have h3 := HOLN.out; omega) (by have h1 := HPF.out.1; omega) (RC.mat (HRz.out.go hb) (HUz.out.go hb)))
          simp only [and_self, decide_true, List.length_nil] at CR CS
          rw [hul]
          have hsi : (nb : Int) + ((packN X.2 : Nat) : Int) = (q : Int) := by have h1 := HPF.out.1; omega
          have BB0 := Lib.hid ((Below.refl Zw.heap.size Zw).drew)
          have BA := Lib.hid (((Below.refl Zw.heap.size Zw).alloc (Nat.le_refl _) (.cells #[] 22)).drew)
          have HOA := Lib.hid (show OwR (Zw.alloc (.cells #[] 22)).drew Zw.heap.size (.slice (some ⟨Zw.heap.size, 0, none⟩) 0 0) [] from OwR.made0 Zw (Nat.le_refl _))
          have KEEP := Lib.hid (fun w' (h : Below Zw.heap.size Zw w') => (show Below Zw.heap.size Zw w' ∧ w'.cell? ⟨g8, 0, none⟩ = some (.slice A5 0 c5) ∧ w'.cell? ⟨g8, 1, none⟩ = some (.int .i64 0) ∧ w'.cell? ⟨g8, 2, none⟩ = some (.int .i64 0) ∧ w'.cell? ⟨gf, 0, none⟩ = some (.slice A1 nb c1) from
            ⟨h, (cG3 (oldG HG8.out h (Nat.le_refl _))).1, (cG3 (oldG HG8.out h (Nat.le_refl _))).2.1, (cG3 (oldG HG8.out h (Nat.le_refl _))).2.2, (cG3 (oldG HFz.out h (Nat.le_refl _))).1⟩))
          clear hsm hul ho1 ho2
          generalize packN X.2 = pn at *
          generalize X.2.length = r1 at *
          generalize Y.2.length = r2 at *
          generalize (okR ls).length = nr at *
          go_wp2_with fail
          go_region_held3 (fun w' => Below Zw.heap.size Zw w' ∧ w'.cell? ⟨g8, 0, none⟩ = some (.slice A5 0 c5) ∧ w'.cell? ⟨g8, 1, none⟩ = some (.int .i64 0) ∧ w'.cell? ⟨g8, 2, none⟩ = some (.int .i64 0) ∧ w'.cell? ⟨gf, 0, none⟩ = some (.slice A1 nb c1))
            (first | with_reducible exact KEEP.out _ BB0.out | with_reducible exact KEEP.out _ BA.out | with_reducible exact KEEP.out _ BB1.out | with_reducible exact KEEP.out _ BB2.out | with_reducible exact KEEP.out _ BB3.out | with_reducible exact KEEP.out _ BB4.out)
            (first
            | (rw [if_pos (by rfl)]; refine CA1.out _ _ _ _ _ _ (by rfl) (by rfl) (by rfl) (by with_reducible exact HOA.out) (by with_reducible exact BA.out) ?_; intro vA wA hoA hbA; have BB1 := Lib.hid hbA; have HO1 := Lib.hid hoA; clear hoA hbA)
            | (rw [if_pos (by rfl)]; refine CA2.out _ _ _ _ vA _ (by rfl) (by rfl) (by rfl) (by with_reducible exact HO1.out) (by with_reducible exact BB1.out) ?_; intro AB cB wB hmB hbB; have BB2 := Lib.hid hbB; have HM2 := Lib.hid hmB; clear hmB hbB)
            | (go_at_call 19; (with_reducible refine (CR.out _ _ _ HM2.out BB2.out).mono ?_); rintro e wC ⟨rfl, hbC⟩; have BB3 := Lib.hid (belG BB2.out hbC BB2.out.size); clear hbC)
            | (go_at_call 16; (with_reducible refine (CS.out _).mono ?_); rintro e wD ⟨rfl, hbD⟩; have BB4 := Lib.hid (belG BB3.out hbD BB3.out.size); clear hbD)
            | (go_at_call 21; (with_reducible refine (CP.out _ BB4.out).mono ?_); rintro e wE ⟨rfl, rfl⟩))
          go_wp2_with fail
          go_ret
          exact ⟨by rw [show IntKind.i64.wrap ((q : Nat) : Int) = ((q : Nat) : Int) from IntWalk.i64_in _ (by omega)]; simp, belG HBz.out BB4.out HBz.out.size⟩
        · obtain ⟨Zw, hZw⟩ : ∃ Z, Z = set3F wz V.heap.size (.slice A5 0 c5) (.int .i64 0) (.int .i64 0) := ⟨_, rfl⟩
          have hg8 : Zw.heap[V.heap.size]? = some (.cells #[.slice A5 0 c5, .int .i64 0, .int .i64 0] 24 (0, 0)) := by rw [hZw]; exact set3F_same _ _ _ HZ8.out
          have hoth : ∀ k, k ≠ V.heap.size → Zw.heap[k]? = wz.heap[k]? := fun k hk => by rw [hZw]; exact set3F_other wz _ k _ _ _ hk
          have hszz : Zw.heap.size = wz.heap.size := by rw [hZw]; exact set3F_size _ _ _ _ _
          have hwz : Below V.heap.size V Zw := by rw [hZw]; exact Below.set3F BB1.out (Nat.le_refl _) _ _ _
          have HS2 := Lib.hid (Q6.out.keep (fun A l hr => hr.keepN HZ8.out (noB3 _ _ _ _ _) hoth (by omega)))
          have HRC := Lib.hid (Q7.out.keepZ Q6.out (fun r hr => (HPR.out r hr).1) HZ8.out hoth (by omega))
          obtain ⟨g8, hg⟩ : ∃ g, g = V.heap.size := ⟨_, rfl⟩
          show Exit.then _ _ Exit.normal _ (set3F wz V.heap.size (.slice A5 0 c5) (.int .i64 0) (.int .i64 0))
          rw [← hZw]
          rw [← hg] at hg8
          rw [show (V.heap.size : Nat) = g8 from hg.symm]
          clear hZw hoth hszz e0 e1 e2 f0 f1 f2 BE HZ8 hg
          have HOz := Lib.hid (HOV.out.call hwz)
          have HUz := Lib.hid (HUV.out.go hwz)
          have HRz := Lib.hid (HRV.out.go hwz)
          have HFz := Lib.hid (oldG HGF.out hwz (Nat.le_refl _))
          have HBz := Lib.hid (belG HBV.out hwz HBV.out.size)
          have HSz := Lib.hid (Nat.le_trans HSV.out hwz.size)
          have HG8 := Lib.hid hg8
          clear hwz hg8 BB0 BB1 BA KEEP C2 HOV HUV HRV HBV HSV HXV HGF Q6 Q7
          obtain ⟨Ao, co, rfl, ho1, ho2⟩ := HOz.out.form
          have hul := HS.out.1
          have HUS := Lib.hid hul
          have HMO := Lib.hid (OwR.mat HOz.out (HS.out.go HBz.out))
          have HL1 := Lib.hid HUz.out.1.symm
          have HL2 := Lib.hid HS2.out.1.symm
          have hsm : X.2.length + Y.2.length = (okR ls).length := by rw [← HXY.out.2, List.length_append]
          have HSM := Lib.hid hsm
          have CA1 := Lib.hid (fun (o : Oper) (a : Act) (Kk : Act → World → Prop) (Q : Exit → Act → World → Prop) (g : Nat) (w : World) (ho : o.op = .call { callee := .builtin .append, args := #[.tmp 105, .tmp 106], argTypes := #[35, 35] }) (h1 : a.eval (.tmp 105) = .slice (some ⟨g, 0, none⟩) 0 0) (h2 : a.eval (.tmp 106) = .slice A2 X.2.length c2) (hg : OwR w Zw.heap.size (.slice (some ⟨g, 0, none⟩) 0 0) []) (hb : Below Zw.heap.size Zw w) (hK : ∀ v' w', OwR w' Zw.heap.size v' us1 → Below Zw.heap.size Zw w' → Kk (a.put o.dst v') w') =>
            (wp_appRs w (.tmp 105) (.tmp 106) ho Zw.heap.size _ [] us1 h1 hg A2 X.2.length c2 h2 HL1.out (HRz.out.go hb).at_ HUz.out.slices (by have h1 := HL1.out; have h2 := HSM.out; have h3 := HOLN.out; simp only [List.length_nil]; omega) hb.size (fun v' w' p1 p2 => hK v' w' p1 (hb.trans p2)) : o.wp Try.prog a w Kk Q))
          have CA2 := Lib.hid (fun (o : Oper) (a : Act) (Kk : Act → World → Prop) (Q : Exit → Act → World → Prop) (v : Value) (w : World) (ho : o.op = .call { callee := .builtin .append, args := #[.tmp 107, .tmp 108], argTypes := #[35, 35] }) (h1 : a.eval (.tmp 107) = v) (h2 : a.eval (.tmp 108) = .slice A4 Y.2.length c4) (hg : OwR w Zw.heap.size v us1) (hb : Below Zw.heap.size Zw w) (hK : ∀ A' c' w', Mat w' w'.heap.size A' (okR ls) → Below Zw.heap.size Zw w' → Kk (a.put o.dst (.slice A' (okR ls).length c')) w') =>
            (wp_appRs w (.tmp 107) (.tmp 108) ho Zw.heap.size v us1 us2 h1 hg A4 Y.2.length c4 h2 HL2.out (HRC.out.go hb).at_ HS2.out.slices (by have h1 := HL1.out; have h5 := HL2.out; have h2 := HSM.out; have h3 := HOLN.out; omega) hb.size (fun v' w' p1 p2 => by
              have hb2 := hb.trans p2
              obtain ⟨A', c', e, -, -⟩ := p1.form
              have hln : (us1 ++ us2).length = (okR ls).length := by rw [List.length_append, ← HL1.out, ← HL2.out]; exact HSM.out
              rw [hln] at e
              subst e
              refine hK A' c' w' ?_ hb2
              have hs := (HUz.out.go hb2).append (HS2.out.go hb2)
              rw [HXY.out.2] at hs
              exact OwR.mat p1 hs) : o.wp Try.prog a w Kk Q))
          have CR := Lib.hid (fun (A' : Option Addr) (c' : Nat) w (h1 : Mat w w.heap.size A' (okR ls)) (hb : Below Zw.heap.size Zw w) => rows2_any A' Ao (okR ls) (okR ls) c' co w h1 ((HMO.out.below hb (Nat.le_refl _)).more hb.size) HOLN.out HOLN.out)
          have CS := Lib.hid (fun w => refSame8_any A5 none [] [] c5 0 0 0 0 0 w Rd.nil Rd.nil)
          have CP := Lib.hid (fun w (hb : Below Zw.heap.size Zw w) => packed_any A2 X.2 c2 w (by have h2 := HSM.out; have h3 := HOLN.out; omega) (by have h1 := HPF.out.1; omega) (RC.mat (HRz.out.go hb) (HUz.out.go hb)))
          simp only [and_self, decide_true, List.length_nil] at CR CS
          rw [hul]
          have hsi : (nb : Int) + ((packN X.2 : Nat) : Int) = (q : Int) := by have h1 := HPF.out.1; omega
          have BB0 := Lib.hid ((Below.refl Zw.heap.size Zw).drew)
          have BA := Lib.hid (((Below.refl Zw.heap.size Zw).alloc (Nat.le_refl _) (.cells #[] 22)).drew)
          have HOA := Lib.hid (show OwR (Zw.alloc (.cells #[] 22)).drew Zw.heap.size (.slice (some ⟨Zw.heap.size, 0, none⟩) 0 0) [] from OwR.made0 Zw (Nat.le_refl _))
          have KEEP := Lib.hid (fun w' (h : Below Zw.heap.size Zw w') => (show Below Zw.heap.size Zw w' ∧ w'.cell? ⟨g8, 0, none⟩ = some (.slice A5 0 c5) ∧ w'.cell? ⟨g8, 1, none⟩ = some (.int .i64 0) ∧ w'.cell? ⟨g8, 2, none⟩ = some (.int .i64 0) ∧ w'.cell? ⟨gf, 0, none⟩ = some (.slice A1 nb c1) from
            ⟨h, (cG3 (oldG HG8.out h (Nat.le_refl _))).1, (cG3 (oldG HG8.out h (Nat.le_refl _))).2.1, (cG3 (oldG HG8.out h (Nat.le_refl _))).2.2, (cG3 (oldG HFz.out h (Nat.le_refl _))).1⟩))
          clear hsm hul ho1 ho2
          generalize packN X.2 = pn at *
          generalize X.2.length = r1 at *
          generalize Y.2.length = r2 at *
          generalize (okR ls).length = nr at *
          go_wp2_with fail
          go_region_held3 (fun w' => Below Zw.heap.size Zw w' ∧ w'.cell? ⟨g8, 0, none⟩ = some (.slice A5 0 c5) ∧ w'.cell? ⟨g8, 1, none⟩ = some (.int .i64 0) ∧ w'.cell? ⟨g8, 2, none⟩ = some (.int .i64 0) ∧ w'.cell? ⟨gf, 0, none⟩ = some (.slice A1 nb c1))
            (first | with_reducible exact KEEP.out _ BB0.out | with_reducible exact KEEP.out _ BA.out | with_reducible exact KEEP.out _ BB1.out | with_reducible exact KEEP.out _ BB2.out | with_reducible exact KEEP.out _ BB3.out | with_reducible exact KEEP.out _ BB4.out)
            (first
            | (rw [if_pos (by rfl)]; refine CA1.out _ _ _ _ _ _ (by rfl) (by rfl) (by rfl) (by with_reducible exact HOA.out) (by with_reducible exact BA.out) ?_; intro vA wA hoA hbA; have BB1 := Lib.hid hbA; have HO1 := Lib.hid hoA; clear hoA hbA)
            | (rw [if_pos (by rfl)]; refine CA2.out _ _ _ _ vA _ (by rfl) (by rfl) (by rfl) (by with_reducible exact HO1.out) (by with_reducible exact BB1.out) ?_; intro AB cB wB hmB hbB; have BB2 := Lib.hid hbB; have HM2 := Lib.hid hmB; clear hmB hbB)
            | (go_at_call 19; (with_reducible refine (CR.out _ _ _ HM2.out BB2.out).mono ?_); rintro e wC ⟨rfl, hbC⟩; have BB3 := Lib.hid (belG BB2.out hbC BB2.out.size); clear hbC)
            | (go_at_call 16; (with_reducible refine (CS.out _).mono ?_); rintro e wD ⟨rfl, hbD⟩; have BB4 := Lib.hid (belG BB3.out hbD BB3.out.size); clear hbD)
            | (go_at_call 21; (with_reducible refine (CP.out _ BB4.out).mono ?_); rintro e wE ⟨rfl, rfl⟩))
          go_wp2_with fail
          go_ret
          exact ⟨by rw [show IntKind.i64.wrap ((q : Nat) : Int) = ((q : Nat) : Int) from IntWalk.i64_in _ (by omega)]; simp, belG HBz.out BB4.out HBz.out.size⟩
end Go.Proofs.Ytcableacihkggaa
