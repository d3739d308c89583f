/- DigReads' walk -/
import Derived.Test.YtlhiaehgeijohaaWBack
import Derived.Deep.DeepCutAuto
namespace Go.Proofs.Ytlhiaehgeijohaa
open Go.RowKit

theorem fig_nib (v : Nat) (h : v < 16) (hf : isFig (sgn v) = true) : v < 10 := by
  have e := sgn_nat v h
  have := (isFig_iff _).1 hf
  by_cases h10 : v < 10
  · exact h10
  · rw [if_neg h10] at e; omega
theorem pack_of_hx (part : List UInt8) (k : Nat) (hk : (k + 1) / 2 = part.length) (h : tbOk part k = true) :
    packL gFig ((hx part).drop (k % 2)) = part ∧ allFig ((hx part).drop (k % 2)) = true ∧ ((hx part).drop (k % 2)).length = k := by
  unfold tbOk at h
  rw [Bool.and_eq_true] at h
  obtain ⟨hf, h0⟩ := h
  have hall : packL gFig (hx part) = part := by
    apply packL_hx gFig gFig_w
    intro i hi
    apply gFig_sgn
    apply fig_nib _ (nib_lt part i)
    unfold allFig at hf
    rw [List.all_eq_true] at hf
    have := hf _ (List.getElem_mem (show i < (hx part).length by rw [hx_length]; exact hi))
    rwa [hx_get] at this
  have hlen := hx_length part
  rcases Nat.mod_two_eq_zero_or_one k with e | e
  · rw [e, List.drop_zero]
    exact ⟨hall, hf, by omega⟩
  · rw [e] at h0 ⊢
    cases hh : hx part with
    | nil => rw [hh] at hlen; simp at hlen; omega
    | cons a t =>
      rw [hh] at h0 hall hf hlen
      simp at h0
      subst h0
      simp only [List.length_cons] at hlen
      have ho : t.length % 2 = 1 := by omega
      simp only [List.drop_succ_cons, List.drop_zero]
      refine ⟨by rw [← packL_odd t ho]; exact hall, ?_, by omega⟩
      unfold allFig at hf ⊢
      rw [List.all_cons, Bool.and_eq_true] at hf
      exact hf.2
theorem tbS_reads (l : List UInt8) (i n : Int) (h : (tbS l i n).2.2 = 0) :
    0 ≤ i ∧ i ≤ (tbS l i n).2.1 ∧ (tbS l i n).2.1 ≤ l.length ∧ ((tbS l i n).1.length : Int) = n ∧ bcdE (tbS l i n).1 = 0 ∧ bcdL (tbS l i n).1 = (l.drop i.toNat).take ((tbS l i n).2.1 - i).toNat := by
  unfold tbS at h ⊢
  by_cases h1 : n < 0 ∨ 999 < n ∨ i < 0 ∨ (l.length : Int) < i
  · rw [if_pos h1] at h; exact absurd h (by decide)
  · rw [if_neg h1] at h ⊢
    by_cases h2 : l.length < i.toNat + (n.toNat + 1) / 2
    · rw [if_pos h2] at h; exact absurd h (by decide)
    · rw [if_neg h2] at h ⊢
      have hlen : ((l.drop i.toNat).take ((n.toNat + 1) / 2)).length = (n.toNat + 1) / 2 := by rw [List.length_take, List.length_drop]; omega
      by_cases h3 : tbOk ((l.drop i.toNat).take ((n.toNat + 1) / 2)) n.toNat = true
      · rw [if_pos h3]
        obtain ⟨a, b, c⟩ := pack_of_hx _ _ hlen.symm h3
        simp only
        refine ⟨by omega, by omega, by omega, by rw [c]; omega, by unfold bcdE; rw [if_pos b], ?_⟩
        unfold bcdL
        rw [if_pos b, a]
        congr 1
        omega
      · rw [if_neg h3] at h; exact absurd h (by decide)
theorem tgS_reads (l : List UInt8) (i n : Int) (h : (tgS l i n).2.2 = 0) :
    0 ≤ i ∧ i ≤ (tgS l i n).2.1 ∧ (tgS l i n).2.1 ≤ l.length ∧ (tgS l i n).1 ≤ 9223372036854775807 ∧ bigE (tgS l i n).1 n = 0 ∧ bigL (tgS l i n).1 n = (l.drop i.toNat).take ((tgS l i n).2.1 - i).toNat := by
  unfold tgS at h ⊢
  by_cases h1 : n < 1 ∨ 8 < n ∨ i < 0 ∨ (l.length : Int) < i
  · rw [if_pos h1] at h; exact absurd h (by decide)
  · rw [if_neg h1] at h ⊢
    by_cases h2 : l.length < i.toNat + n.toNat
    · rw [if_pos h2] at h; exact absurd h (by decide)
    · rw [if_neg h2] at h ⊢
      have hlen : ((l.drop i.toNat).take n.toNat).length = n.toNat := by rw [List.length_take, List.length_drop]; omega
      by_cases h3 : numL ((l.drop i.toNat).take n.toNat) ≤ 9223372036854775807
      · rw [if_pos h3]
        have hlt := numL_lt ((l.drop i.toNat).take n.toNat)
        rw [hlen] at hlt
        have hok : bigOk (numL ((l.drop i.toNat).take n.toNat) : Int) n = true := by
          rw [bigOk_iff]
          exact ⟨by omega, by omega, by omega, by simpa using hlt⟩
        have hd := dgL_num ((l.drop i.toNat).take n.toNat)
        rw [hlen] at hd
        simp only
        refine ⟨by omega, by omega, by omega, by omega, by unfold bigE; rw [if_pos hok], ?_⟩
        unfold bigL
        rw [if_pos hok, Int.toNat_natCast, hd]
        congr 1
        omega
      · rw [if_neg h3] at h; exact absurd h (by decide)
theorem valR_reads (l : List UInt8) (h : (valR l).2 = 0) : (valR l).1 ≤ 9223372036854775807 ∧ digE ((valR l).1 : Int) (l.length : Int) = 0 ∧ digL ((valR l).1 : Int) (l.length : Int) = l := by
  unfold valR at h ⊢
  by_cases h1 : 1 ≤ l.length ∧ l.length ≤ 18 ∧ allFig l = true
  · rw [if_pos h1]
    have hlt := val_lt l h1.2.2
    have h18 : 10 ^ l.length ≤ 10 ^ 18 := Nat.pow_le_pow_right (by omega) h1.2.1
    have hok : digOk (val l : Int) (l.length : Int) = true := by
      rw [digOk_iff]
      exact ⟨by omega, by omega, by omega, by simpa using hlt⟩
    refine ⟨by simp only; omega, by unfold digE; rw [if_pos hok], ?_⟩
    unfold digL
    rw [if_pos hok, Int.toNat_natCast, Int.toNat_natCast, dgL_val l h1.2.2]
  · rw [if_neg h1] at h; exact absurd h (by decide)
theorem unhex_reads (l : List UInt8) : (unhexE l = 0 ∧ hx (unhexL l) = l ∧ (unhexL l).length ≤ l.length) ∨ (unhexE l = 2 ∧ unhexL l = []) := by
  unfold unhexE unhexL
  by_cases h : unhexOk l = true
  · rw [if_pos h, if_pos h]
    unfold unhexOk at h
    rw [Bool.and_eq_true, decide_eq_true_eq] at h
    refine .inl ⟨rfl, ?_, by rw [packL_length]; omega⟩
    rw [hx_packL gHalf gHalf_w gHalf_u l h.2, h.1]
    rfl
  · rw [if_neg h, if_neg h]
    exact .inr ⟨rfl, rfl⟩

theorem big_of (m n : Int) (p : List UInt8) (hm : m ≤ 9223372036854775807) (hL : bigL m n = p) (hE : bigE m n = 0) (W : World) :
    Calls Try.prog 23 #[.int .i64 m, .int .i64 n] W fun e W' => Ans W' e p p.length (.int .i64 0) ∧ Below W.heap.size W W' := by
  have h := big_all m n W hm
  rw [hL, hE] at h
  exact h
theorem digits_of (m n : Int) (s : ByteArray) (hm : m ≤ 9223372036854775807) (hE : digE m n = 0) (hL : digL m n = s.data.toList) (W : World) :
    Calls Try.prog 12 #[.int .i64 m, .int .i64 n] W fun e W' => e = .returned (.tuple #[.string s, .int .i64 0]) ∧ Below W.heap.size W W' := by
  have h := digits_all m n W hm
  rw [hL, hE] at h
  exact h
theorem same_n (A B : Option Addr) (la lb : List UInt8) (n m ca cb BA BB : Nat) (w : World) (hn : n = la.length) (hm : m = lb.length) (ha : Rd w BA A la) (hb : Rd w BB B lb) :
    Calls Try.prog 18 #[.slice A n ca, .slice B m cb] w fun e w' => e = .returned (.bool (decide (la = lb))) ∧ w = w' := by
  subst hn hm
  exact same_any A B la lb ca cb BA BB w ha hb

theorem eq_or (e : Int) : e = 0 ∨ ((e == 0) = false ∧ (e != 0) = true) := by
  by_cases h : e = 0
  · exact .inl h
  · right; simp [h]

set_option maxRecDepth 100000 in
set_option maxHeartbeats 2000000 in
theorem digReads_walk (A : Option Addr) (b : List UInt8) (c : Nat) (at_ n : Int) (s : ByteArray) (W : World)
    (hc : b.length ≤ c) (hr : Rd W W.heap.size A b) (hat : 0 ≤ at_ ∧ at_ ≤ 255) (hn : 0 ≤ n ∧ n ≤ 255) (hs : s.size ≤ maxLen) :
    Calls Try.prog 7 #[.agg #[.slice A b.length c, .int .u8 at_, .int .u8 n, .string s]] W fun e W' => e = .returned (.bool true) ∧ Below W.heap.size W W' := by
  unfold maxLen at hs
  by_cases h200 : 200 < b.length
  · go_enter Try.func7, Try.ntmps7
    go_wp2_with fail
    refine (shown_any _).mono ?_
    rintro e W1 ⟨rfl, hb1⟩
    have HB1 := Lib.hid (((Below.refl W.heap.size W).alloc (Nat.le_refl _) _).trans (hb1.mono (le_alloc (Nat.le_refl _) _)))
    clear hb1
    go_wp2
    go_ret
    exact ⟨rfl, HB1.out⟩
  by_cases h100 : 100 < s.size
  · go_enter Try.func7, Try.ntmps7
    go_wp2_with fail
    refine (shown_any _).mono ?_
    rintro e W1 ⟨rfl, hb1⟩
    have HB1 := Lib.hid (((Below.refl W.heap.size W).alloc (Nat.le_refl _) _).trans (hb1.mono (le_alloc (Nat.le_refl _) _)))
    clear hb1
    go_wp2
    go_ret
    exact ⟨rfl, HB1.out⟩
  obtain ⟨i, hi⟩ : ∃ i : Int, i = at_ % ((b.length : Int) + 1) := ⟨_, rfl⟩
  have ei : at_ % ((b.length : Int) + 1) = i := hi.symm
  have hi0 : 0 ≤ i := by rw [hi]; exact Int.emod_nonneg _ (by omega)
  have hi1 : i ≤ (b.length : Int) := by rw [hi]; have := Int.emod_lt_of_pos at_ (show (0 : Int) < (b.length : Int) + 1 by omega); omega
  clear hi
  go_enter Try.func7, Try.ntmps7
  go_wp2_with fail
  refine (shown_any _).mono ?_
  rintro e W1 ⟨rfl, hb1⟩
  have hb1' := (((Below.refl W.heap.size W).alloc (Nat.le_refl _) _).trans (hb1.mono (le_alloc (Nat.le_refl _) _)))
  have HB1 := Lib.hid hb1'
  clear hb1 hb1'
  have HR0 := Lib.hid hr
  clear hr
  go_wp2_with fail
  refine (takeBcd_all A b c i n _ (by omega) hc ((HR0.out.below HB1.out (Nat.le_refl _)).more HB1.out.size)).mono ?_
  rintro e W2 ⟨rfl, hb2⟩
  have HB2 := Lib.hid (HB1.out.trans (hb2.mono HB1.out.size))
  clear hb2
  have T := Lib.hid (tbS_reads b i n)
  generalize tbS b i n = t at *
  obtain ⟨d, nx, e1⟩ := t
  go_upto_if 59 with (fail)
  go_cut [12] (fun _ wx => Below W.heap.size W wx)
  case first =>
    rcases eq_or e1 with rfl | ⟨q1, q1'⟩
    · obtain ⟨t0, t1, t2, t3, t4, t5⟩ := T.out rfl
      have D1 := Lib.hid (fun W => bcd_of d _ t5 t4 (by omega) W)
      have T4 := Lib.hid t4
      have T5 := Lib.hid t5
      have hln : ((d.length : Int) != n) = false := by simp [t3]
      have e2 : (nx.toNat - i.toNat) = (nx - i).toNat := by omega
      have hlen : ((b.drop i.toNat).take (nx - i).toNat).length = (nx - i).toNat := by rw [List.length_take, List.length_drop]; omega
      have RC := Lib.hid (HR0.out.cut i.toNat (nx - i).toNat c (by omega) hc)
      obtain ⟨j, rfl⟩ := Int.eq_ofNat_of_zero_le hi0
      obtain ⟨nx, rfl⟩ := Int.eq_ofNat_of_zero_le (show 0 ≤ nx by omega)
      simp only [Int.toNat_natCast] at RC hlen D1 e2
      have e3 : ((nx : Int) - (j : Int)).toNat = nx - j := by omega
      rw [e3] at RC hlen D1
      clear t3 t4 t5 e2 e3
      generalize (b.drop j).take (nx - j) = part at *
      have HL := Lib.hid hlen
      clear hlen T4 T5 T
      go_wp2_with fail
      refine (D1.out _).mono ?_
      rintro e W3 ⟨⟨A3, c3, rfl, hc3, hcc3, hr3⟩, hb3⟩
      have HB3 := Lib.hid (HB2.out.trans (hb3.mono HB2.out.size))
      have HR3 := Lib.hid hr3
      clear hb3 hr3 HB2
      have hln2 := HL.out
      have u1 : decide (nx < j) = false := by simp; omega
      have u2 : decide (b.length < nx) = false := by simp; omega
      by_cases hcj : c = j
      · subst hcj
        have hp0 : part = [] := List.eq_nil_of_length_eq_zero (by omega)
        have HP0 := Lib.hid hp0
        clear hp0 hln2
        go_wp2_with fail
        refine (same_n _ _ part part _ _ _ _ W3.heap.size W3.heap.size W3 rfl HL.out.symm HR3.out (by rw [HP0.out]; exact Rd.nil)).mono ?_
        rintro e W4 ⟨rfl, rfl⟩
        rw [show decide (part = part) = true by simp]
        go_wp2_with fail
        go_meet
        exact HB3.out
      · have hR := RC.out
        rw [if_neg hcj] at hR
        have HR := Lib.hid ((hR.below HB3.out (Nat.le_refl _)).more HB3.out.size)
        clear hR hln2
        go_wp2_with fail
        refine (same_n _ _ part part _ _ _ _ W3.heap.size _ W3 rfl HL.out.symm HR3.out (by simpa using HR.out)).mono ?_
        rintro e W4 ⟨rfl, rfl⟩
        rw [show decide (part = part) = true by simp]
        go_wp2_with fail
        go_meet
        exact HB3.out
    · go_wp2_with fail
      go_meet
      exact HB2.out
  case rest =>
    clear T HB1 HB2
    have HB2 := Lib.hid hcut
    clear hcut
    go_wp2_with fail
    refine (takeBig_all A b c i n _ (by omega) hc ((HR0.out.below HB2.out (Nat.le_refl _)).more HB2.out.size)).mono ?_
    rintro e W3 ⟨rfl, rfl⟩
    have T := Lib.hid (tgS_reads b i n)
    generalize tgS b i n = t at *
    obtain ⟨m, nx, e1⟩ := t
    go_upto_if 104 with (fail)
    go_cut [17] (fun _ wx => Below W.heap.size W wx)
    case first =>
      rcases eq_or e1 with rfl | ⟨q1, q1'⟩
      · obtain ⟨t0, t1, t2, t3, t4, t5⟩ := T.out rfl
        have D1 := Lib.hid (fun W => big_of m n _ t3 t5 t4 W)
        have hlen : ((b.drop i.toNat).take (nx - i).toNat).length = (nx - i).toNat := by rw [List.length_take, List.length_drop]; omega
        have RC := Lib.hid (HR0.out.cut i.toNat (nx - i).toNat c (by omega) hc)
        obtain ⟨j, rfl⟩ := Int.eq_ofNat_of_zero_le hi0
        obtain ⟨nx, rfl⟩ := Int.eq_ofNat_of_zero_le (show 0 ≤ nx by omega)
        simp only [Int.toNat_natCast] at RC hlen D1
        have e3 : ((nx : Int) - (j : Int)).toNat = nx - j := by omega
        rw [e3] at RC hlen D1
        clear t4 t5 e3
        generalize (b.drop j).take (nx - j) = part at *
        have HL := Lib.hid hlen
        clear hlen T
        go_wp2_with fail
        refine (D1.out _).mono ?_
        rintro e W4 ⟨⟨A3, c3, rfl, hc3, hcc3, hr3⟩, hb3⟩
        have HB3 := Lib.hid (HB2.out.trans (hb3.mono HB2.out.size))
        have HR3 := Lib.hid hr3
        clear hb3 hr3 HB2
        have hln2 := HL.out
        have u1 : decide (nx < j) = false := by simp; omega
        have u2 : decide (b.length < nx) = false := by simp; omega
        by_cases hcj : c = j
        · subst hcj
          have hp0 : part = [] := List.eq_nil_of_length_eq_zero (by omega)
          have HP0 := Lib.hid hp0
          clear hp0 hln2
          go_wp2_with fail
          refine (same_n _ _ part part _ _ _ _ W4.heap.size W4.heap.size W4 rfl HL.out.symm HR3.out (by rw [HP0.out]; exact Rd.nil)).mono ?_
          rintro e W5 ⟨rfl, rfl⟩
          rw [show decide (part = part) = true by simp]
          go_wp2_with fail
          go_meet
          exact HB3.out
        · have hR := RC.out
          rw [if_neg hcj] at hR
          have HR := Lib.hid ((hR.below HB3.out (Nat.le_refl _)).more HB3.out.size)
          clear hR hln2
          go_wp2_with fail
          refine (same_n _ _ part part _ _ _ _ W4.heap.size _ W4 rfl HL.out.symm HR3.out (by simpa using HR.out)).mono ?_
          rintro e W5 ⟨rfl, rfl⟩
          rw [show decide (part = part) = true by simp]
          go_wp2_with fail
          go_meet
          exact HB3.out
      · go_wp2_with fail
        go_meet
        exact HB2.out
    case rest =>
      clear T HB2
      have HB2 := Lib.hid hcut
      clear hcut
      have V := Lib.hid (fun W => value_all s W (by omega))
      have R := Lib.hid (valR_reads s.data.toList)
      rw [bytes_len] at R
      have U := Lib.hid (fun W => unhex_all s W (by omega))
      have UR := Lib.hid (unhex_reads s.data.toList)
      generalize hv : valR s.data.toList = v at *
      obtain ⟨v, ev⟩ := v
      clear hv
      generalize hux : unhexL s.data.toList = ux at *
      generalize huE : unhexE s.data.toList = uE at *
      clear hux huE
      go_wp2_with fail
      refine (V.out _).mono ?_
      rintro e W4 ⟨rfl, hb4⟩
      have HB4 := Lib.hid (HB2.out.trans (hb4.mono HB2.out.size))
      clear hb4 HB2
      go_upto_if 140 with (fail)
      go_cut [21] (fun _ wx => Below W.heap.size W wx)
      case first =>
        rcases Nat.eq_zero_or_pos ev with rfl | hev
        · obtain ⟨r1, r2, r3⟩ := R.out rfl
          have D := Lib.hid (fun W => digits_of v s.size s (by omega) r2 r3 W)
          clear r2 r3
          go_wp2_with fail
          refine (D.out _).mono ?_
          rintro e W5 ⟨rfl, hb5⟩
          have HB5 := Lib.hid (HB4.out.trans (hb5.mono HB4.out.size))
          clear hb5 HB4
          have hss : (s.toList != s.toList) = false := by simp
          go_wp2_with fail
          go_meet
          exact HB5.out
        · have q : ((ev : Int) == 0) = false := by simp; omega
          go_wp2_with fail
          go_meet
          exact HB4.out
      case rest =>
        clear HB4
        have HB4 := Lib.hid hcut
        clear hcut V R
        go_wp2_with fail
        refine (U.out _).mono ?_
        rintro e W5 ⟨⟨A5, c5, rfl, hc5, hcc5, hr5⟩, hb5⟩
        have HB5 := Lib.hid (HB4.out.trans (hb5.mono HB4.out.size))
        have HR5 := Lib.hid hr5
        clear hb5 hr5 HB4 U
        rcases UR.out with ⟨u1, u2, u3⟩ | ⟨u1, u2⟩
        · subst u1
          have hxs : (⟨(hx ux).toArray⟩ : ByteArray) = s := by rw [u2]
          have HXS := Lib.hid hxs
          rw [bytes_len] at u3
          have H := Lib.hid (fun W h => hex_any A5 ux c5 W (by omega) h)
          clear hxs u2
          go_wp2_with fail
          refine (H.out _ HR5.out).mono ?_
          rintro e W6 ⟨rfl, hb6⟩
          have HB6 := Lib.hid (HB5.out.trans (hb6.mono HB5.out.size))
          clear hb6
          rw [HXS.out]
          go_wp2
          go_ret
          exact ⟨by simp, HB6.out⟩
        · subst u1
          subst u2
          go_wp2
          go_ret
          exact ⟨by simp, HB5.out⟩
end Go.Proofs.Ytlhiaehgeijohaa
