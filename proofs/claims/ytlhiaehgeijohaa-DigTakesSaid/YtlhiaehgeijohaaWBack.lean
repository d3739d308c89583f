/- DigBack's walk -/
import Derived.Test.YtlhiaehgeijohaaWParts
namespace Go.Proofs.Ytlhiaehgeijohaa
open Go.RowKit

theorem value_of (d : List UInt8) (m : Int) (h : (((valR d).1 : Nat) : Int) = m) (h2 : (valR d).2 = 0) (hs : d.length ≤ 1000000) (W : World) :
    Calls Try.prog 14 #[.string ⟨d.toArray⟩] W fun e W' => e = .returned (.tuple #[.int .i64 m, .int .i64 0]) ∧ Below W.heap.size W W' := by
  have h3 := value_all ⟨d.toArray⟩ W (by simp [ByteArray.size]; omega)
  rw [show (⟨d.toArray⟩ : ByteArray).data.toList = d from rfl, h, h2] at h3
  exact h3
theorem takeBcd_sl (v : Value) (l : List UInt8) (at_ n : Int) (t : List UInt8 × Int × Int) (ht : tbS l at_ n = t) (W : World) (hl : l.length ≤ 1000000) (h : Sl W v l) :
    Calls Try.prog 19 #[v, .int .i64 at_, .int .i64 n] W fun e W' => e = .returned (.tuple #[.string ⟨t.1.toArray⟩, .int .i64 t.2.1, .int .i64 t.2.2]) ∧ Below W.heap.size W W' := by
  obtain ⟨A, c, rfl, hc, _, hr⟩ := h
  subst ht
  exact takeBcd_all A l c at_ n W hl hc hr
theorem takeBig_sl (v : Value) (l : List UInt8) (at_ n : Int) (t : Int × Int × Int) (ht : tgS l at_ n = t) (W : World) (hl : l.length ≤ 1000000) (h : Sl W v l) :
    Calls Try.prog 21 #[v, .int .i64 at_, .int .i64 n] W fun e W' => e = .returned (.tuple #[.int .i64 t.1, .int .i64 t.2.1, .int .i64 t.2.2]) ∧ W = W' := by
  obtain ⟨A, c, rfl, hc, _, hr⟩ := h
  subst ht
  exact takeBig_all A l c at_ n W hl hc hr
theorem unhex_of (d p : List UInt8) (hL : unhexL d = p) (hE : unhexE d = 0) (hs : d.length ≤ 1000000) (W : World) :
    Calls Try.prog 25 #[.string ⟨d.toArray⟩] W fun e W' => Ans W' e p p.length (.int .i64 0) ∧ Below W.heap.size W W' := by
  have h := unhex_all ⟨d.toArray⟩ W (by simpa [ByteArray.size] using hs)
  rw [show (⟨d.toArray⟩ : ByteArray).data.toList = d from rfl, hL, hE] at h
  exact h

theorem digOk_of {n w : Int} (h : digE n w = 0) : ∃ a k : Nat, n = a ∧ w = k ∧ 1 ≤ k ∧ k ≤ 18 ∧ a < 10 ^ k ∧ digL n w = dgL 48 10 a k := by
  have h1 := ok_of_digE h
  have h2 := (digOk_iff n w).1 h1
  obtain ⟨a, rfl⟩ := Int.eq_ofNat_of_zero_le h2.2.2.1
  obtain ⟨k, rfl⟩ := Int.eq_ofNat_of_zero_le (show 0 ≤ w by omega)
  refine ⟨a, k, rfl, rfl, by omega, by omega, h2.2.2.2, ?_⟩
  unfold digL
  rw [if_pos h1]
  rfl
theorem bigOk_of {n w : Int} (h : bigE n w = 0) : ∃ a k : Nat, n = a ∧ w = k ∧ 1 ≤ k ∧ k ≤ 8 ∧ a < 256 ^ k ∧ bigL n w = dgL 0 256 a k := by
  have h1 := ok_of_bigE h
  have h2 := (bigOk_iff n w).1 h1
  obtain ⟨a, rfl⟩ := Int.eq_ofNat_of_zero_le h2.2.2.1
  obtain ⟨k, rfl⟩ := Int.eq_ofNat_of_zero_le (show 0 ≤ w by omega)
  refine ⟨a, k, rfl, rfl, by omega, by omega, h2.2.2.2, ?_⟩
  unfold bigL
  rw [if_pos h1]
  rfl
theorem valR_digL {n w : Int} (h : digE n w = 0) : (((valR (digL n w)).1 : Nat) : Int) = n ∧ (valR (digL n w)).2 = 0 := by
  obtain ⟨a, k, rfl, rfl, h1, h2, h3, h4⟩ := digOk_of h
  rw [h4, valR_ok _ (by rw [dgL_length]; exact h1) (by rw [dgL_length]; exact h2) (dgL_fig a k), val_dgL, Nat.mod_eq_of_lt h3]
  exact ⟨rfl, rfl⟩
theorem tbS_back {n w : Int} (more : List UInt8) (h : digE n w = 0) : tbS (packL gFig (digL n w) ++ more) 0 w = (digL n w, (w + 1) / 2, 0) := by
  obtain ⟨a, k, rfl, rfl, h1, h2, h3, h4⟩ := digOk_of h
  rw [h4]
  have hlen : (packL gFig (dgL 48 10 a k)).length = (k + 1) / 2 := by rw [packL_length, dgL_length]
  have hhx := hx_packL gFig gFig_w gFig_u (dgL 48 10 a k) (by rw [okL_fig]; exact dgL_fig a k)
  rw [dgL_length] at hhx
  have hfig := dgL_fig a k
  unfold tbS
  rw [if_neg (by omega), List.length_append, hlen, if_neg (by simp only [Int.toNat_natCast]; omega)]
  simp only [Int.toNat_natCast, Int.toNat_zero, List.drop_zero]
  rw [List.take_left' hlen, hhx]
  have hok : tbOk (packL gFig (dgL 48 10 a k)) k = true := by
    unfold tbOk
    rw [hhx]
    unfold allFig at hfig ⊢
    rw [List.all_append, hfig]
    rcases Nat.mod_two_eq_zero_or_one k with e | e
    · rw [e]; simp
    · rw [e]; simp; decide
  rw [if_pos hok]
  rcases Nat.mod_two_eq_zero_or_one k with e | e
  · rw [e]; simp
  · rw [e]; simp
theorem tgS_back {n w : Int} (more : List UInt8) (h : bigE n w = 0) (hn : n ≤ 9223372036854775807) : tgS (bigL n w ++ more) 0 w = (n, w, 0) := by
  obtain ⟨a, k, rfl, rfl, h1, h2, h3, h4⟩ := bigOk_of h
  rw [h4]
  have hlen : (dgL 0 256 a k).length = k := dgL_length _ _ _ _
  unfold tgS
  rw [if_neg (by omega), List.length_append, hlen, if_neg (by simp only [Int.toNat_natCast]; omega)]
  simp only [Int.toNat_natCast, Int.toNat_zero, List.drop_zero]
  rw [List.take_left' hlen, numL_dgL, Nat.mod_eq_of_lt h3, if_pos (by omega)]
  simp
theorem unhex_hx (l : List UInt8) : unhexL (hx l) = l ∧ unhexE (hx l) = 0 := by
  have hok : unhexOk (hx l) = true := by
    unfold unhexOk
    rw [hx_length, show 2 * l.length % 2 = 0 by omega]
    have : okL gHalf (hx l) = true := by
      unfold okL
      rw [List.all_eq_true]
      intro c hc
      obtain ⟨i, hi, rfl⟩ := List.getElem_of_mem hc
      rw [hx_get, gHalf_sgn _ (nib_lt l i)]
      rfl
    rw [this]
    rfl
  unfold unhexL unhexE
  rw [if_pos hok, if_pos hok, packL_hx gHalf gHalf_w l (fun i _ => gHalf_sgn _ (nib_lt l i))]
  exact ⟨rfl, rfl⟩

set_option maxRecDepth 100000 in
set_option maxHeartbeats 2000000 in
theorem digBack_walk (n w : Int) (A : Option Addr) (b : List UInt8) (c : Nat) (A' : Option Addr) (more : List UInt8) (c' : Nat) (W : World)
    (hn : -9223372036854775808 ≤ n ∧ n ≤ 9223372036854775807) (hw : -9223372036854775808 ≤ w ∧ w ≤ 9223372036854775807) (hc : b.length ≤ c) (hr : Rd W W.heap.size A b) (hc' : more.length ≤ c') (hr' : Rd W W.heap.size A' more) :
    Calls Try.prog 6 #[.agg #[.int .i64 n, .int .i64 w, .slice A b.length c, .slice A' more.length c']] W fun e W' => e = .returned (.bool true) ∧ Below W.heap.size W W' := by
  by_cases h200 : 200 < b.length ∨ 100 < more.length
  · rcases h200 with h2 | h1
    · go_enter Try.func6, Try.ntmps6
      go_wp2_with fail
      refine (shown_any _).mono ?_
      rintro e W1 ⟨rfl, hb1⟩
      have HB1 := Lib.hid (((Below.refl W.heap.size W).alloc (Nat.le_refl _) _).trans (hb1.mono (le_alloc (Nat.le_refl _) _)))
      clear hb1
      go_wp2
      go_ret
      exact ⟨rfl, HB1.out⟩
    · by_cases h2 : 200 < b.length
      all_goals
        go_enter Try.func6, Try.ntmps6
        go_wp2_with fail
        refine (shown_any _).mono ?_
        rintro e W1 ⟨rfl, hb1⟩
        have HB1 := Lib.hid (((Below.refl W.heap.size W).alloc (Nat.le_refl _) _).trans (hb1.mono (le_alloc (Nat.le_refl _) _)))
        clear hb1
        go_wp2
        go_ret
        exact ⟨rfl, HB1.out⟩
  · have hbl : b.length ≤ 200 := by omega
    have hml : more.length ≤ 100 := by omega
    clear h200
    have C1 := Lib.hid (fun W => digits_all n w W hn.2)
    have C3 := Lib.hid (fun W => big_all n w W hn.2)
    have dV := Lib.hid (@valR_digL n w)
    have dB := Lib.hid (@tbS_back n w more)
    have dG := Lib.hid (fun h => @tgS_back n w more h hn.2)
    have dF := Lib.hid (@digL_fig n w)
    have dL := Lib.hid (@digL_len n w)
    have gL : bigE n w = 0 → (bigL n w).length = w.toNat := fun h => by
      obtain ⟨a, k, rfl, rfl, _, _, _, h4⟩ := bigOk_of h
      rw [h4, dgL_length]
      rfl
    have gO : bigE n w = 0 → 1 ≤ w ∧ w ≤ 8 := fun h => ⟨((bigOk_iff n w).1 (ok_of_bigE h)).1, ((bigOk_iff n w).1 (ok_of_bigE h)).2.1⟩
    have dO : digE n w = 0 → 1 ≤ w ∧ w ≤ 18 := fun h => ⟨((digOk_iff n w).1 (ok_of_digE h)).1, ((digOk_iff n w).1 (ok_of_digE h)).2.1⟩
    have GL := Lib.hid gL
    have GO := Lib.hid gO
    have DO := Lib.hid dO
    have ux := unhex_hx b
    have U1 := Lib.hid (fun W => unhex_of (hx b) b ux.1 ux.2 (by rw [hx_length]; omega) W)
    have hxl := hx_length b
    have HXL := Lib.hid hxl
    clear gL gO dO ux hxl hn hw
    generalize digL n w = d1 at *
    generalize digE n w = e1 at *
    generalize bigL n w = b1 at *
    generalize bigE n w = e3 at *
    have z : ∀ e : Int, e = 0 ∨ ((e == 0) = false ∧ (e != 0) = true) := fun e => by
      by_cases h : e = 0
      · exact .inl h
      · right; simp [h]
    go_enter Try.func6, Try.ntmps6
    go_wp2_with fail
    refine (shown_any _).mono ?_
    rintro e W1 ⟨rfl, hb1⟩
    have hb1' := (((Below.refl W.heap.size W).alloc (Nat.le_refl _) _).trans (hb1.mono (le_alloc (Nat.le_refl _) _)))
    have HB1 := Lib.hid hb1'
    have HR1 := Lib.hid ((hr.below hb1' (Nat.le_refl _)).more hb1'.size)
    have HM1 := Lib.hid ((hr'.below hb1' (Nat.le_refl _)).more hb1'.size)
    clear hb1 hb1' hr hr'
    go_wp2_with fail
    refine (C1.out _).mono ?_
    rintro e W2 ⟨rfl, hb2⟩
    have HB2 := Lib.hid (HB1.out.trans (hb2.mono HB1.out.size))
    have HR2 := Lib.hid ((HR1.out.below hb2 (Nat.le_refl _)).more hb2.size)
    have HM2 := Lib.hid ((HM1.out.below hb2 (Nat.le_refl _)).more hb2.size)
    clear hb2 HB1 HR1 HM1 C1
    rcases z e1 with rfl | ⟨q1, q1'⟩
    · have g1 := DO.out rfl
      have g2 := dL.out rfl
      have g3 := dF.out rfl
      have g4 := dV.out rfl
      have g5 := dB.out rfl
      have g6 : d1.length ≤ 18 := by omega
      have g7 : (d1.length : Int) = w := by omega
      have V1 := Lib.hid (fun W => value_of d1 n g4.1 g4.2 (by omega) W)
      have D1 := Lib.hid (fun W => bcd_of d1 _ (by unfold bcdL; rw [if_pos g3]) (by unfold bcdE; rw [if_pos g3]) (by omega) W)
      have y1 : (packL gFig d1).length = (d1.length + 1) / 2 := packL_length _ _
      have y2 : (packL gFig d1).length ≤ 9 := by omega
      have y3 : (((packL gFig d1).length : Nat) : Int) = (w + 1) / 2 := by omega
      generalize packL gFig d1 = p1 at *
      have TB := Lib.hid (fun v W h => takeBcd_sl v (p1 ++ more) 0 w (d1, (w + 1) / 2, 0) g5 W (by rw [List.length_append]; omega) h)
      have G7 := Lib.hid g7
      have Y3 := Lib.hid y3
      have hsz : ((⟨d1.toArray⟩ : ByteArray).size : Int) = w := by rw [← g7]; rfl
      have HSZ := Lib.hid hsz
      have hw1 : 0 ≤ w := by omega
      have hw2 : w ≤ 18 := by omega
      clear g1 g2 g3 g4 g5 g7 y1 y3 hsz
      go_wp2_with fail
      refine (V1.out _).mono ?_
      rintro e W3 ⟨rfl, hb3⟩
      have HB3 := Lib.hid (HB2.out.trans (hb3.mono HB2.out.size))
      have HR3 := Lib.hid ((HR2.out.below hb3 (Nat.le_refl _)).more hb3.size)
      have HM3 := Lib.hid ((HM2.out.below hb3 (Nat.le_refl _)).more hb3.size)
      clear hb3 HB2 HR2 HM2
      go_wp2_with fail
      refine (D1.out _).mono ?_
      rintro e W4 ⟨⟨A1, c1, rfl, hc1, hcc1, hr1⟩, hb4⟩
      have HB4 := Lib.hid (HB3.out.trans (hb4.mono HB3.out.size))
      have HR4 := Lib.hid ((HR3.out.below hb4 (Nat.le_refl _)).more hb4.size)
      have HM4 := Lib.hid ((HM3.out.below hb4 (Nat.le_refl _)).more hb4.size)
      have HP4 := Lib.hid hr1
      clear hb4 HB3 HR3 HM3 hr1
      go_wp2_with (first | (at_builtin; refine wpList_appS _ rfl (.tmp 61) (.tmp 62) rfl W4.heap.size _ [] p1 rfl (by exact Ow.made0 _ (Nat.le_refl _)) _ _ _ W4.heap.size rfl rfl (by exact HP4.out.keep fun p hp => World.cell?_alloc_lt W4 _ p hp) (by simp only [List.length_nil]; omega) (by exact le_alloc (Nat.le_refl _) _) ?_; intro v8 Wa hown8 hgrow8; have hb8 := Ow.below (w0 := W4) (by exact Ow.made0 _ (Nat.le_refl _)) (by exact (Below.refl _ _).alloc (Nat.le_refl _) _) hgrow8 (by exact le_alloc (Nat.le_refl _) _); have HBa := Lib.hid hb8; have HOa := Lib.hid hown8; clear hb8 hown8 hgrow8) | (at_builtin; refine wpList_appS _ rfl (.tmp 63) (.tmp 64) rfl W4.heap.size _ ([] ++ p1) more rfl HOa.out _ _ _ W4.heap.size rfl rfl (HM4.out.below HBa.out (Nat.le_refl _)) (by simp only [List.nil_append]; omega) HBa.out.size ?_; intro v9 Wb hown9 hgrow9; have HBb := Lib.hid (Ow.below HOa.out HBa.out hgrow9 HBa.out.size); have HOb := Lib.hid hown9; clear hown9 hgrow9))
      refine (TB.out _ Wb HOb.out.sl).mono ?_
      rintro e W5 ⟨rfl, hb5⟩
      have hbb := HBb.out.trans (hb5.mono HBb.out.size)
      have HB5 := Lib.hid (HB4.out.trans (hbb.mono HB4.out.size))
      have HR5 := Lib.hid ((HR4.out.below hbb (Nat.le_refl _)).more hbb.size)
      have HM5 := Lib.hid ((HM4.out.below hbb (Nat.le_refl _)).more hbb.size)
      clear hb5 hbb HB4 HR4 HM4 HP4 HOa HBa HOb HBb TB V1 D1
      have t1 : (((⟨d1.toArray⟩ : ByteArray).size : Int) != w) = false := by simp [HSZ.out]
      have t2 : ((w + 1) / 2 != (p1.length : Int)) = false := by simp [Y3.out]
      have t3 : ((p1.length : Int) != (w + 1) / 2) = false := by simp [Y3.out]
      go_wp2_with fail
      clear t1 t2 t3 G7 Y3 HSZ y2 hw1 hw2 g6
      refine (C3.out _).mono ?_
      rintro e X1 ⟨⟨A3, c3, rfl, hc3, hcc3, hr3⟩, hb3⟩
      have HX1 := Lib.hid (HB5.out.trans (hb3.mono HB5.out.size))
      have HRX1 := Lib.hid ((HR5.out.below hb3 (Nat.le_refl _)).more hb3.size)
      have HMX1 := Lib.hid ((HM5.out.below hb3 (Nat.le_refl _)).more hb3.size)
      have HGX1 := Lib.hid hr3
      clear hb3 hr3
      rcases z e3 with rfl | ⟨q3, q3'⟩
      · have k1 := GO.out rfl
        have k2 := GL.out rfl
        have k3 : b1.length ≤ 8 := by omega
        have k4 : (b1.length : Int) = w := by omega
        have k5 := dG.out rfl
        have TG := Lib.hid (fun v W h => takeBig_sl v (b1 ++ more) 0 w (n, w, 0) k5 W (by rw [List.length_append]; omega) h)
        have K4 := Lib.hid k4
        have k6 : ((b1.length : Int) != w) = false := by simp [k4]
        clear k1 k2 k4 k5
        go_wp2_with (first | (at_builtin; refine wpList_appS _ rfl (.tmp 120) (.tmp 121) rfl X1.heap.size _ [] b1 rfl (by exact Ow.made0 _ (Nat.le_refl _)) _ _ _ X1.heap.size rfl rfl (by exact HGX1.out.keep fun p hp => World.cell?_alloc_lt X1 _ p hp) (by simp only [List.length_nil]; omega) (by exact le_alloc (Nat.le_refl _) _) ?_; intro v8 Wa hown8 hgrow8; have hb8 := Ow.below (w0 := X1) (by exact Ow.made0 _ (Nat.le_refl _)) (by exact (Below.refl _ _).alloc (Nat.le_refl _) _) hgrow8 (by exact le_alloc (Nat.le_refl _) _); have HBa := Lib.hid hb8; have HOa := Lib.hid hown8; clear hb8 hown8 hgrow8) | (at_builtin; refine wpList_appS _ rfl (.tmp 122) (.tmp 123) rfl X1.heap.size _ ([] ++ b1) more rfl HOa.out _ _ _ X1.heap.size rfl rfl (HMX1.out.below HBa.out (Nat.le_refl _)) (by simp only [List.nil_append]; omega) HBa.out.size ?_; intro v9 Wb hown9 hgrow9; have HBb := Lib.hid (Ow.below HOa.out HBa.out hgrow9 HBa.out.size); have HOb := Lib.hid hown9; clear hown9 hgrow9))
        refine (TG.out _ Wb HOb.out.sl).mono ?_
        rintro e X2 ⟨rfl, rfl⟩
        have HX2 := Lib.hid (HX1.out.trans (HBb.out.mono HX1.out.size))
        have HRX2 := Lib.hid ((HRX1.out.below HBb.out (Nat.le_refl _)).more HBb.out.size)
        clear HOa HBa HOb HBb HMX1 HGX1
        go_wp2_with fail
        refine (hex_any A b c _ (by omega) HRX2.out).mono ?_
        rintro e Y1 ⟨rfl, hb5⟩
        have HY1 := Lib.hid (HX2.out.trans (hb5.mono HX2.out.size))
        have HRY1 := Lib.hid ((HRX2.out.below hb5 (Nat.le_refl _)).more hb5.size)
        clear hb5
        go_wp2_with fail
        refine (U1.out _).mono ?_
        rintro e Y2 ⟨⟨A5, c5, rfl, hc5, hcc5, hr5⟩, hb6⟩
        have HY2 := Lib.hid (HY1.out.trans (hb6.mono HY1.out.size))
        have HRY2 := Lib.hid ((HRY1.out.below hb6 (Nat.le_refl _)).more hb6.size)
        have HUY2 := Lib.hid hr5
        clear hb6 hr5
        go_wp2_with fail
        refine (same_any A5 A b b c5 c _ _ Y2 HUY2.out HRY2.out).mono ?_
        rintro e Y3 ⟨rfl, rfl⟩
        rw [show decide (b = b) = true by simp]
        go_wp2_with fail
        refine (hex_any A b c _ (by omega) HRY2.out).mono ?_
        rintro e Y4 ⟨rfl, hb7⟩
        have HY4 := Lib.hid (HY2.out.trans (hb7.mono HY2.out.size))
        clear hb7
        have hl : (⟨(hx b).toArray⟩ : ByteArray).size = 2 * b.length := by rw [← HXL.out]; rfl
        generalize (⟨(hx b).toArray⟩ : ByteArray) = S at *
        have hl2 : (S.size : Int) = 2 * (b.length : Int) := by omega
        clear hl
        go_wp2
        go_ret
        exact ⟨by simp, HY4.out⟩
      · clear HMX1 HGX1
        go_wp2_with fail
        refine (hex_any A b c _ (by omega) HRX1.out).mono ?_
        rintro e Y1 ⟨rfl, hb5⟩
        have HY1 := Lib.hid (HX1.out.trans (hb5.mono HX1.out.size))
        have HRY1 := Lib.hid ((HRX1.out.below hb5 (Nat.le_refl _)).more hb5.size)
        clear hb5
        go_wp2_with fail
        refine (U1.out _).mono ?_
        rintro e Y2 ⟨⟨A5, c5, rfl, hc5, hcc5, hr5⟩, hb6⟩
        have HY2 := Lib.hid (HY1.out.trans (hb6.mono HY1.out.size))
        have HRY2 := Lib.hid ((HRY1.out.below hb6 (Nat.le_refl _)).more hb6.size)
        have HUY2 := Lib.hid hr5
        clear hb6 hr5
        go_wp2_with fail
        refine (same_any A5 A b b c5 c _ _ Y2 HUY2.out HRY2.out).mono ?_
        rintro e Y3 ⟨rfl, rfl⟩
        rw [show decide (b = b) = true by simp]
        go_wp2_with fail
        refine (hex_any A b c _ (by omega) HRY2.out).mono ?_
        rintro e Y4 ⟨rfl, hb7⟩
        have HY4 := Lib.hid (HY2.out.trans (hb7.mono HY2.out.size))
        clear hb7
        have hl : (⟨(hx b).toArray⟩ : ByteArray).size = 2 * b.length := by rw [← HXL.out]; rfl
        generalize (⟨(hx b).toArray⟩ : ByteArray) = S at *
        have hl2 : (S.size : Int) = 2 * (b.length : Int) := by omega
        clear hl
        go_wp2
        go_ret
        exact ⟨by simp, HY4.out⟩
    · go_wp2_with fail
      refine (C3.out _).mono ?_
      rintro e X1 ⟨⟨A3, c3, rfl, hc3, hcc3, hr3⟩, hb3⟩
      have HX1 := Lib.hid (HB2.out.trans (hb3.mono HB2.out.size))
      have HRX1 := Lib.hid ((HR2.out.below hb3 (Nat.le_refl _)).more hb3.size)
      have HMX1 := Lib.hid ((HM2.out.below hb3 (Nat.le_refl _)).more hb3.size)
      have HGX1 := Lib.hid hr3
      clear hb3 hr3
      rcases z e3 with rfl | ⟨q3, q3'⟩
      · have k1 := GO.out rfl
        have k2 := GL.out rfl
        have k3 : b1.length ≤ 8 := by omega
        have k4 : (b1.length : Int) = w := by omega
        have k5 := dG.out rfl
        have TG := Lib.hid (fun v W h => takeBig_sl v (b1 ++ more) 0 w (n, w, 0) k5 W (by rw [List.length_append]; omega) h)
        have K4 := Lib.hid k4
        have k6 : ((b1.length : Int) != w) = false := by simp [k4]
        clear k1 k2 k4 k5
        go_wp2_with (first | (at_builtin; refine wpList_appS _ rfl (.tmp 120) (.tmp 121) rfl X1.heap.size _ [] b1 rfl (by exact Ow.made0 _ (Nat.le_refl _)) _ _ _ X1.heap.size rfl rfl (by exact HGX1.out.keep fun p hp => World.cell?_alloc_lt X1 _ p hp) (by simp only [List.length_nil]; omega) (by exact le_alloc (Nat.le_refl _) _) ?_; intro v8 Wa hown8 hgrow8; have hb8 := Ow.below (w0 := X1) (by exact Ow.made0 _ (Nat.le_refl _)) (by exact (Below.refl _ _).alloc (Nat.le_refl _) _) hgrow8 (by exact le_alloc (Nat.le_refl _) _); have HBa := Lib.hid hb8; have HOa := Lib.hid hown8; clear hb8 hown8 hgrow8) | (at_builtin; refine wpList_appS _ rfl (.tmp 122) (.tmp 123) rfl X1.heap.size _ ([] ++ b1) more rfl HOa.out _ _ _ X1.heap.size rfl rfl (HMX1.out.below HBa.out (Nat.le_refl _)) (by simp only [List.nil_append]; omega) HBa.out.size ?_; intro v9 Wb hown9 hgrow9; have HBb := Lib.hid (Ow.below HOa.out HBa.out hgrow9 HBa.out.size); have HOb := Lib.hid hown9; clear hown9 hgrow9))
        refine (TG.out _ Wb HOb.out.sl).mono ?_
        rintro e X2 ⟨rfl, rfl⟩
        have HX2 := Lib.hid (HX1.out.trans (HBb.out.mono HX1.out.size))
        have HRX2 := Lib.hid ((HRX1.out.below HBb.out (Nat.le_refl _)).more HBb.out.size)
        clear HOa HBa HOb HBb HMX1 HGX1
        go_wp2_with fail
        refine (hex_any A b c _ (by omega) HRX2.out).mono ?_
        rintro e Y1 ⟨rfl, hb5⟩
        have HY1 := Lib.hid (HX2.out.trans (hb5.mono HX2.out.size))
        have HRY1 := Lib.hid ((HRX2.out.below hb5 (Nat.le_refl _)).more hb5.size)
        clear hb5
        go_wp2_with fail
        refine (U1.out _).mono ?_
        rintro e Y2 ⟨⟨A5, c5, rfl, hc5, hcc5, hr5⟩, hb6⟩
        have HY2 := Lib.hid (HY1.out.trans (hb6.mono HY1.out.size))
        have HRY2 := Lib.hid ((HRY1.out.below hb6 (Nat.le_refl _)).more hb6.size)
        have HUY2 := Lib.hid hr5
        clear hb6 hr5
        go_wp2_with fail
        refine (same_any A5 A b b c5 c _ _ Y2 HUY2.out HRY2.out).mono ?_
        rintro e Y3 ⟨rfl, rfl⟩
        rw [show decide (b = b) = true by simp]
        go_wp2_with fail
        refine (hex_any A b c _ (by omega) HRY2.out).mono ?_
        rintro e Y4 ⟨rfl, hb7⟩
        have HY4 := Lib.hid (HY2.out.trans (hb7.mono HY2.out.size))
        clear hb7
        have hl : (⟨(hx b).toArray⟩ : ByteArray).size = 2 * b.length := by rw [← HXL.out]; rfl
        generalize (⟨(hx b).toArray⟩ : ByteArray) = S at *
        have hl2 : (S.size : Int) = 2 * (b.length : Int) := by omega
        clear hl
        go_wp2
        go_ret
        exact ⟨by simp, HY4.out⟩
      · clear HMX1 HGX1
        go_wp2_with fail
        refine (hex_any A b c _ (by omega) HRX1.out).mono ?_
        rintro e Y1 ⟨rfl, hb5⟩
        have HY1 := Lib.hid (HX1.out.trans (hb5.mono HX1.out.size))
        have HRY1 := Lib.hid ((HRX1.out.below hb5 (Nat.le_refl _)).more hb5.size)
        clear hb5
        go_wp2_with fail
        refine (U1.out _).mono ?_
        rintro e Y2 ⟨⟨A5, c5, rfl, hc5, hcc5, hr5⟩, hb6⟩
        have HY2 := Lib.hid (HY1.out.trans (hb6.mono HY1.out.size))
        have HRY2 := Lib.hid ((HRY1.out.below hb6 (Nat.le_refl _)).more hb6.size)
        have HUY2 := Lib.hid hr5
        clear hb6 hr5
        go_wp2_with fail
        refine (same_any A5 A b b c5 c _ _ Y2 HUY2.out HRY2.out).mono ?_
        rintro e Y3 ⟨rfl, rfl⟩
        rw [show decide (b = b) = true by simp]
        go_wp2_with fail
        refine (hex_any A b c _ (by omega) HRY2.out).mono ?_
        rintro e Y4 ⟨rfl, hb7⟩
        have HY4 := Lib.hid (HY2.out.trans (hb7.mono HY2.out.size))
        clear hb7
        have hl : (⟨(hx b).toArray⟩ : ByteArray).size = 2 * b.length := by rw [← HXL.out]; rfl
        generalize (⟨(hx b).toArray⟩ : ByteArray) = S at *
        have hl2 : (S.size : Int) = 2 * (b.length : Int) := by omega
        clear hl
        go_wp2
        go_ret
        exact ⟨by simp, HY4.out⟩
end Go.Proofs.Ytlhiaehgeijohaa
