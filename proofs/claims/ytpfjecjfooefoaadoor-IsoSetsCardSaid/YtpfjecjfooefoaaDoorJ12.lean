
/- Fields, plain: what is written is read, and the other way round. -/
import Derived.Test.YtpfjecjfooefoaaDoorJ11
namespace Go.Proofs.YtpfjecjfooefoaaDoor
open Go.RowKit

set_option maxRecDepth 100000 in
theorem tbS_pack (pre s more : List UInt8) (hs : allFig s = true) (h9 : s.length ≤ 999) (q m : Nat) (hq : q = pre.length) (hm : m = s.length) :
    tbS (pre ++ (packL gFig s ++ more)) q m = (s, ((q + (m + 1) / 2 : Nat) : Int), 0) := by
  subst hq hm
  have hlen : (packL gFig s).length = (s.length + 1) / 2 := packL_length _ _
  have hhx := hx_packL gFig gFig_w gFig_u s (by rw [okL_fig]; exact hs)
  have htake : ((pre ++ (packL gFig s ++ more)).drop pre.length).take ((s.length + 1) / 2) = packL gFig s := by
    rw [List.drop_left, List.take_left' hlen]
  unfold tbS
  simp only [Int.toNat_natCast]
  rw [if_neg (by simp only [List.length_append]; omega), htake, if_neg (by simp only [List.length_append, hlen]; omega)]
  have hok : tbOk (packL gFig s) s.length = true := by
    unfold tbOk
    rw [hhx]
    unfold allFig at hs ⊢
    rw [List.all_append, hs]
    rcases Nat.mod_two_eq_zero_or_one s.length with e | e
    · rw [e]; simp
    · rw [e]; simp; decide
  rw [if_pos hok, hhx]
  rcases Nat.mod_two_eq_zero_or_one s.length with e | e
  · rw [e]; simp
  · rw [e]; simp
set_option maxRecDepth 100000 in
theorem tbS_ok (l : List UInt8) (q m : Nat) (h : (tbS l q m).2.2 = 0) :
    q + (m + 1) / 2 ≤ l.length ∧ (tbS l q m).2.1 = ((q + (m + 1) / 2 : Nat) : Int) ∧ (tbS l q m).1.length = m ∧ allFig (tbS l q m).1 = true ∧ packL gFig (tbS l q m).1 = (l.drop q).take ((m + 1) / 2) := by
  unfold tbS at h ⊢
  simp only [Int.toNat_natCast] at h ⊢
  by_cases h1 : (m : Int) < 0 ∨ 999 < (m : Int) ∨ (q : Int) < 0 ∨ (l.length : Int) < (q : Int)
  · rw [if_pos h1] at h; exact absurd h (by decide)
  · rw [if_neg h1] at h ⊢
    by_cases h2 : l.length < q + (m + 1) / 2
    · rw [if_pos h2] at h; exact absurd h (by decide)
    · rw [if_neg h2] at h ⊢
      have hlen : ((l.drop q).take ((m + 1) / 2)).length = (m + 1) / 2 := by rw [List.length_take, List.length_drop]; omega
      by_cases h3 : tbOk ((l.drop q).take ((m + 1) / 2)) m = true
      · rw [if_pos h3]
        obtain ⟨a, b, c⟩ := pack_of_hx _ _ hlen.symm h3
        exact ⟨by omega, by simp, c, b, a⟩
      · rw [if_neg h3] at h; exact absurd h (by decide)
set_option maxRecDepth 100000 in
theorem tbS_err (l : List UInt8) (q m : Nat) (hm : m ≤ 999) (hq : q ≤ l.length) : (l.length < q + (m + 1) / 2 → (tbS l q m).2.2 = 3) ∧ ((tbS l q m).2.2 = 0 ∨ (tbS l q m).2.2 = 2 ∨ (tbS l q m).2.2 = 3) := by
  unfold tbS
  simp only [Int.toNat_natCast]
  rw [if_neg (by omega)]
  constructor
  · intro h; rw [if_pos h]
  · split
    · right; right; rfl
    · split
      · left; rfl
      · right; left; rfl
set_option maxRecDepth 100000 in
theorem tbS_local (l : List UInt8) (q m c : Nat) (hc : c ≤ l.length) (h : q + (m + 1) / 2 ≤ c) : tbS (l.take c) q m = tbS l q m := by
  have e : ((l.take c).drop q).take ((m + 1) / 2) = (l.drop q).take ((m + 1) / 2) := by
    rw [List.drop_take, List.take_take]; congr 1; omega
  have hl : (l.take c).length = c := by rw [List.length_take]; omega
  unfold tbS
  simp only [Int.toNat_natCast]
  rw [e, hl]
  by_cases h1 : (m : Int) < 0 ∨ 999 < (m : Int) ∨ (q : Int) < 0 ∨ (c : Int) < (q : Int)
  · rw [if_pos h1, if_pos (by omega)]
  · have a1 : ¬ ((m : Int) < 0 ∨ 999 < (m : Int) ∨ (q : Int) < 0 ∨ (l.length : Int) < (q : Int)) := by omega
    have a2 : ¬ c < q + (m + 1) / 2 := by omega
    have a3 : ¬ l.length < q + (m + 1) / 2 := by omega
    rw [if_neg h1, if_neg a1, if_neg a2, if_neg a3]

set_option maxRecDepth 100000 in
theorem readB_back (k n : Nat) (v pre more : List UInt8) (h : fitF k n v = true) (h9 : v.length ≤ 999) (q m : Nat) (hq : q = pre.length) (hm : m = v.length) :
    readB k n (pre ++ (bodyF k v ++ more)) q m = (v, ((q + sizeF k m : Nat) : Int), 0) := by
  subst hq hm
  have hbl := body_length k v
  unfold readB
  rw [if_neg (by simp only [List.length_append, hbl]; omega)]
  by_cases hk : k ≤ 2
  · have hf := fit_fig h hk
    have e : bodyF k v = packL gFig v := by unfold bodyF; rw [if_pos hk]
    rw [if_pos hk, e, tbS_pack pre v more hf h9 _ _ rfl rfl, if_pos rfl, if_pos h]
  · have e : bodyF k v = v := by unfold bodyF; rw [if_neg hk]
    rw [if_neg hk, e, List.drop_left, List.take_left' rfl, if_pos h]
set_option maxRecDepth 100000 in
theorem cnt_cases (k : Nat) : cntF k = 0 ∧ ¬ (k = 2 ∨ k = 4) ∧ ¬ (k = 5 ∨ k = 7) ∨ cntF k = 2 ∧ (k = 2 ∨ k = 4) ∨ cntF k = 3 ∧ (k = 5 ∨ k = 7) := by
  unfold cntF
  split
  · right; left; exact ⟨rfl, by assumption⟩
  · split
    · right; right; exact ⟨rfl, by assumption⟩
    · left; exact ⟨rfl, by assumption, by assumption⟩
set_option maxRecDepth 100000 in
/-- how many there are has room in its figures -/
theorem cnt_room {no : Int} {v : List UInt8} (h : fitsF no v = true) (hc : 0 < cntF (fk no)) : v.length < 10 ^ cntF (fk no) := by
  rcases form_bd no with ⟨h1, h2⟩ | ⟨h1, h2, h3, h4, h5⟩
  · rw [fits_none h1] at h; cases h
  · have hl := fit_len h h3
    rcases cnt_cases (fk no) with ⟨e, -, -⟩ | ⟨e, hk⟩ | ⟨e, hk⟩
    · omega
    · rw [e]; have := h5 hk; omega
    · rw [e]; omega
set_option maxRecDepth 100000 in
theorem fits_some {no : Int} {v : List UInt8} (h : fitsF no v = true) : fk no ≠ 0 ∧ 1 ≤ fl no ∧ fl no ≤ 400 ∧ 1 ≤ v.length ∧ v.length ≤ fl no := by
  rcases form_bd no with ⟨h1, h2⟩ | ⟨h1, h2, h3, h4, h5⟩
  · rw [fits_none h1] at h; cases h
  · have hl := fit_len h h3
    exact ⟨by omega, h3, h4, hl.1, hl.2⟩
set_option maxRecDepth 100000 in
theorem write_len {no : Int} {v : List UInt8} (h : fitsF no v = true) : (writeL no v).length = (cntF (fk no) + 1) / 2 + sizeF (fk no) v.length := by
  unfold writeL
  rw [if_pos h, out5_length]
set_option maxRecDepth 100000 in
/-- where nothing tells how many there are, there are as many as the form says -/
theorem len_fix {no : Int} {v : List UInt8} (h : fitsF no v = true) (hc : ¬ 0 < cntF (fk no)) : v.length = fl no := by
  obtain ⟨h1, h2, h3, h4, h5⟩ := fits_some h
  have hk : fk no ≤ 7 := by rcases form_bd no with ⟨e, -⟩ | ⟨-, e, -⟩ <;> omega
  rcases cnt_cases (fk no) with ⟨-, e1, e2⟩ | ⟨e, -⟩ | ⟨e, -⟩
  · unfold fitsF fitF lenF at h
    rw [Bool.and_eq_true, if_pos (by omega)] at h
    exact of_decide_eq_true h.2
  · omega
  · omega
set_option maxRecDepth 100000 in
theorem read_back {no : Int} {v : List UInt8} (more : List UInt8) (h : fitsF no v = true) : readF no (writeL no v ++ more) 0 = (v, ((writeL no v).length : Int), 0) := by
  obtain ⟨h1, h2, h3, h4, h5⟩ := fits_some h
  have hwl := write_len h
  have e0 : writeL no v = outF5 (fk no) v := by unfold writeL; rw [if_pos h]
  unfold readF
  rw [if_neg h1, if_neg (by omega), hwl, e0]
  unfold readH outF5
  simp only [Int.toNat_zero]
  by_cases hc : 0 < cntF (fk no)
  · have hroom := cnt_room h hc
    have hh : headF (fk no) v.length = packL gFig (dgL 48 10 v.length (cntF (fk no))) := by unfold headF; rw [if_pos hc]
    have hc9 : cntF (fk no) ≤ 3 := by rcases cnt_cases (fk no) with ⟨e, -⟩ | ⟨e, -⟩ | ⟨e, -⟩ <;> omega
    have ht := tbS_pack [] (dgL 48 10 v.length (cntF (fk no))) (bodyF (fk no) v ++ more) (dgL_fig _ _) (by rw [dgL_length]; omega) 0 (cntF (fk no)) rfl (by rw [dgL_length])
    rw [List.nil_append, Nat.zero_add] at ht
    rw [if_pos hc, hh, List.append_assoc]
    rw [show ((0 : Nat) : Int) = (0 : Int) from rfl] at ht ⊢
    rw [ht]
    simp only [↓reduceIte]
    rw [val_dgL, Nat.mod_eq_of_lt hroom, if_neg (by omega)]
    have hb := readB_back (fk no) (fl no) v (packL gFig (dgL 48 10 v.length (cntF (fk no)))) more h (by omega) _ v.length rfl rfl
    rw [packL_length, dgL_length] at hb
    rw [Nat.zero_add, hb]
  · have hfx := len_fix h hc
    have hh : headF (fk no) v.length = [] := by unfold headF; rw [if_neg hc]
    have h0 : cntF (fk no) = 0 := by omega
    rw [if_neg hc, hh, List.nil_append, h0]
    have hb := readB_back (fk no) (fl no) v [] more h (by omega) 0 (fl no) rfl hfx.symm
    rw [List.nil_append] at hb
    rw [hb, ← hfx]

set_option maxRecDepth 100000 in
theorem readB_ok (k n : Nat) (b : List UInt8) (q m : Nat) (hq : q ≤ b.length) (h : (readB k n b q m).2.2 = 0) :
    fitF k n (readB k n b q m).1 = true ∧ (readB k n b q m).1.length = m ∧ (readB k n b q m).2.1 = ((q + sizeF k m : Nat) : Int) ∧ q + sizeF k m ≤ b.length ∧ bodyF k (readB k n b q m).1 = (b.drop q).take (sizeF k m) := by
  unfold readB at h ⊢
  by_cases h1 : b.length < q + sizeF k m
  · rw [if_pos h1] at h; exact absurd h (by decide)
  · rw [if_neg h1] at h ⊢
    by_cases hk : k ≤ 2
    · rw [if_pos hk] at h ⊢
      by_cases h2 : (tbS b q m).2.2 = 0
      · rw [if_pos h2] at h ⊢
        obtain ⟨t1, t2, t3, t4, t5⟩ := tbS_ok b q m h2
        by_cases h3 : fitF k n (tbS b q m).1 = true
        · rw [if_pos h3]
          refine ⟨h3, t3, rfl, by omega, ?_⟩
          unfold bodyF sizeF
          rw [if_pos hk, if_pos hk, t5]
        · rw [if_neg h3] at h; exact absurd h (by decide)
      · rw [if_neg h2] at h; exact absurd h (by decide)
    · have hs : sizeF k m = m := by unfold sizeF; rw [if_neg hk]
      rw [if_neg hk] at h ⊢
      by_cases h3 : fitF k n ((b.drop q).take m) = true
      · rw [if_pos h3]
        refine ⟨h3, by rw [List.length_take, List.length_drop]; omega, rfl, by omega, ?_⟩
        unfold bodyF
        rw [if_neg hk, hs]
      · rw [if_neg h3] at h; exact absurd h (by decide)
set_option maxRecDepth 100000 in
theorem readB_bad (k n : Nat) (b : List UInt8) (q m : Nat) (h : (readB k n b q m).2.2 ≠ 0) : (readB k n b q m).1 = [] ∧ (readB k n b q m).2.1 = 0 ∧ ((readB k n b q m).2.2 = 2 ∨ (readB k n b q m).2.2 = 3) := by
  unfold readB at h ⊢
  split
  · exact ⟨rfl, rfl, .inr rfl⟩
  · rename_i h1
    rw [if_neg h1] at h
    split
    · rename_i h2
      rw [if_pos h2] at h
      split
      · rename_i h3
        rw [if_pos h3] at h
        split
        · rename_i h4
          rw [if_pos h4] at h
          exact absurd rfl h
        · exact ⟨rfl, rfl, .inl rfl⟩
      · exact ⟨rfl, rfl, .inl rfl⟩
    · rename_i h2
      rw [if_neg h2] at h
      split
      · rename_i h4
        rw [if_pos h4] at h
        exact absurd rfl h
      · exact ⟨rfl, rfl, .inl rfl⟩
set_option maxRecDepth 100000 in
theorem cnt_le (k : Nat) : cntF k ≤ 3 := by rcases cnt_cases k with ⟨e, -⟩ | ⟨e, -⟩ | ⟨e, -⟩ <;> omega
set_option maxRecDepth 100000 in
theorem readH_bad (k n : Nat) (b : List UInt8) (q : Nat) (hq : q ≤ b.length) (h : (readH k n b q).2.2 ≠ 0) : (readH k n b q).1 = [] ∧ (readH k n b q).2.1 = 0 ∧ ((readH k n b q).2.2 = 2 ∨ (readH k n b q).2.2 = 3) := by
  have hc3 := cnt_le k
  unfold readH at h ⊢
  split
  · rename_i h1
    rw [if_pos h1] at h
    split
    · rename_i h2
      rw [if_pos h2] at h
      split
      · exact ⟨rfl, rfl, .inl rfl⟩
      · rename_i h3
        rw [if_neg h3] at h
        exact readB_bad _ _ _ _ _ h
    · rename_i h2
      rcases (tbS_err b q (cntF k) (by omega) hq).2 with e | e | e
      · exact absurd e h2
      · exact ⟨rfl, rfl, .inl e⟩
      · exact ⟨rfl, rfl, .inr e⟩
  · rename_i h1
    rw [if_neg h1] at h
    exact readB_bad _ _ _ _ _ h
set_option maxRecDepth 100000 in
theorem read_bad (no : Int) (b : List UInt8) (at_ : Int) (h : (readF no b at_).2.2 ≠ 0) : (readF no b at_).1 = [] ∧ (readF no b at_).2.1 = 0 := by
  unfold readF at h ⊢
  split
  · exact ⟨rfl, rfl⟩
  · rename_i h1
    rw [if_neg h1] at h
    split
    · exact ⟨rfl, rfl⟩
    · rename_i h2
      rw [if_neg h2] at h
      have := readH_bad _ _ _ _ (by omega) h
      exact ⟨this.1, this.2.1⟩
set_option maxRecDepth 100000 in
/-- an argument that may not be, and nothing else -/
theorem read_arg (no : Int) (b : List UInt8) (at_ : Int) (hk : fk no ≠ 0) : ((readF no b at_).2.2 = 1) ↔ (at_ < 0 ∨ (b.length : Int) < at_) := by
  unfold readF
  rw [if_neg hk]
  constructor
  · intro h
    by_cases h2 : at_ < 0 ∨ (b.length : Int) < at_
    · exact h2
    · rw [if_neg h2] at h
      rcases (readH_bad (fk no) (fl no) b at_.toNat (by omega) (by omega)).2.2 with e | e <;> omega
  · intro h
    rw [if_pos h]
set_option maxRecDepth 100000 in
theorem read_none (no : Int) (b : List UInt8) (at_ : Int) (hk : fk no = 0) : readF no b at_ = ([], 0, 12) := by
  unfold readF; rw [if_pos hk]
set_option maxRecDepth 100000 in
theorem read_cut {no : Int} {v : List UInt8} (c : Nat) (h : fitsF no v = true) (hc : c < (writeL no v).length) : (readF no ((writeL no v).take c) 0).2.2 = 3 := by
  obtain ⟨h1, h2, h3, h4, h5⟩ := fits_some h
  have hwl := write_len h
  have e0 : writeL no v = outF5 (fk no) v := by unfold writeL; rw [if_pos h]
  have hl : ((writeL no v).take c).length = c := by rw [List.length_take]; omega
  have hc3 := cnt_le (fk no)
  unfold readF
  rw [if_neg h1, if_neg (by omega)]
  unfold readH
  simp only [Int.toNat_zero]
  rw [show ((0 : Nat) : Int) = (0 : Int) from rfl]
  by_cases h0 : 0 < cntF (fk no)
  · rw [if_pos h0]
    by_cases hs : c < (cntF (fk no) + 1) / 2
    · have e3 := (tbS_err ((writeL no v).take c) 0 (cntF (fk no)) (by omega) (by omega)).1 (by rw [hl]; omega)
      rw [show ((0 : Nat) : Int) = (0 : Int) from rfl] at e3
      rw [if_neg (by rw [e3]; decide)]
      exact e3
    · have hroom := cnt_room h h0
      have hh : headF (fk no) v.length = packL gFig (dgL 48 10 v.length (cntF (fk no))) := by unfold headF; rw [if_pos h0]
      have ht := tbS_pack [] (dgL 48 10 v.length (cntF (fk no))) (bodyF (fk no) v) (dgL_fig _ _) (by rw [dgL_length]; omega) 0 (cntF (fk no)) rfl (by rw [dgL_length])
      have hloc := tbS_local (writeL no v) 0 (cntF (fk no)) c (by omega) (by omega)
      rw [List.nil_append, ← hh] at ht
      rw [show writeL no v = headF (fk no) v.length ++ bodyF (fk no) v from e0] at hloc ⊢
      rw [show ((0 : Nat) : Int) = (0 : Int) from rfl] at ht hloc
      rw [hloc, ht]
      simp only [↓reduceIte]
      rw [val_dgL, Nat.mod_eq_of_lt hroom, if_neg (by omega)]
      unfold readB
      rw [if_pos (by rw [show headF (fk no) v.length ++ bodyF (fk no) v = writeL no v from e0.symm, hl]; omega)]
  · have hfx := len_fix h h0
    rw [if_neg h0]
    unfold readB
    rw [if_pos (by rw [hl, ← hfx]; omega)]
set_option maxRecDepth 100000 in
theorem read_ok (no : Int) (b : List UInt8) (i : Nat) (h : (readF no b (i : Int)).2.2 = 0) :
    fitsF no (readF no b (i : Int)).1 = true ∧ ∃ e : Nat, (readF no b (i : Int)).2.1 = (e : Int) ∧ i ≤ e ∧ e ≤ b.length ∧ writeL no (readF no b (i : Int)).1 = (b.drop i).take (e - i) := by
  unfold readF at h ⊢
  by_cases hk : fk no = 0
  · rw [if_pos hk] at h; exact absurd h (by decide)
  · rw [if_neg hk] at h ⊢
    by_cases ha : (i : Int) < 0 ∨ (b.length : Int) < (i : Int)
    · rw [if_pos ha] at h; exact absurd h (by decide)
    · rw [if_neg ha] at h ⊢
      simp only [Int.toNat_natCast] at h ⊢
      have hi : i ≤ b.length := by omega
      unfold readH at h ⊢
      by_cases h0 : 0 < cntF (fk no)
      · rw [if_pos h0] at h ⊢
        by_cases h1 : (tbS b i (cntF (fk no) : Nat)).2.2 = 0
        · rw [if_pos h1] at h ⊢
          obtain ⟨t1, t2, t3, t4, t5⟩ := tbS_ok b i (cntF (fk no)) h1
          by_cases h2 : val (tbS b i (cntF (fk no) : Nat)).1 < 1 ∨ fl no < val (tbS b i (cntF (fk no) : Nat)).1
          · rw [if_pos h2] at h; exact absurd h (by decide)
          · rw [if_neg h2] at h ⊢
            obtain ⟨u1, u2, u3, u4, u5⟩ := readB_ok (fk no) (fl no) b (i + (cntF (fk no) + 1) / 2) _ t1 h
            generalize hm : val (tbS b i (cntF (fk no) : Nat)).1 = m at *
            generalize readB (fk no) (fl no) b (i + (cntF (fk no) + 1) / 2) m = r at *
            refine ⟨u1, _, u3, by omega, u4, ?_⟩
            have hfit : fitsF no r.1 = true := u1
            unfold writeL
            rw [if_pos hfit]
            unfold outF5
            rw [u5, u2]
            have hh : headF (fk no) m = (b.drop i).take ((cntF (fk no) + 1) / 2) := by
              unfold headF
              rw [if_pos h0, ← t5, ← hm]
              congr 1
              have := dgL_val _ t4
              rw [t3] at this
              exact this
            rw [hh, ← List.drop_drop, show i + (cntF (fk no) + 1) / 2 + sizeF (fk no) m - i = (cntF (fk no) + 1) / 2 + sizeF (fk no) m by omega]
            exact (List.take_add ..).symm
        · rw [if_neg h1] at h
          exact absurd h h1
      · rw [if_neg h0] at h ⊢
        obtain ⟨u1, u2, u3, u4, u5⟩ := readB_ok (fk no) (fl no) b i (fl no) hi h
        generalize readB (fk no) (fl no) b i (fl no) = r at *
        refine ⟨u1, _, u3, by omega, u4, ?_⟩
        have hfit : fitsF no r.1 = true := u1
        unfold writeL
        rw [if_pos hfit]
        unfold outF5
        rw [u5, u2]
        have hh : headF (fk no) (fl no) = [] := by unfold headF; rw [if_neg h0]
        rw [hh, List.nil_append]
        congr 1
        omega
set_option maxRecDepth 100000 in
theorem apart {no : Int} {v w : List UInt8} (hv : fitsF no v = true) (hw : fitsF no w = true) (n : Nat) (hn : n = min (writeL no v).length (writeL no w).length) :
    ((writeL no v).take n = (writeL no w).take n) ↔ v = w := by
  constructor
  · intro h
    subst hn
    rcases Nat.le_total (writeL no v).length (writeL no w).length with hl | hl
    · rw [Nat.min_eq_left hl, List.take_length] at h
      have e : writeL no w = writeL no v ++ (writeL no w).drop (writeL no v).length := by
        conv => lhs; rw [← List.take_append_drop (writeL no v).length (writeL no w), ← h]
      have h1 := read_back ((writeL no w).drop (writeL no v).length) hv
      have h2 := read_back [] hw
      rw [List.append_nil] at h2
      rw [← e, h2] at h1
      exact (Prod.mk.inj h1).1.symm
    · rw [Nat.min_eq_right hl, List.take_length] at h
      have e : writeL no v = writeL no w ++ (writeL no v).drop (writeL no w).length := by
        conv => lhs; rw [← List.take_append_drop (writeL no w).length (writeL no v), h]
      have h1 := read_back ((writeL no v).drop (writeL no w).length) hw
      have h2 := read_back [] hv
      rw [List.append_nil] at h2
      rw [← e, h2] at h1
      exact (Prod.mk.inj h1).1
  · rintro rfl
    rfl
end Go.Proofs.YtpfjecjfooefoaaDoor
/- The document's answer: which fields there are. -/

namespace Go.Proofs.YtpfjecjfooefoaaDoor
open Go.RowKit

set_option maxRecDepth 100000 in
theorem bel5 {B : Nat} {w X w1 : World} (h : Below B w X) (hb : Below X.heap.size X w1) (hB : B ≤ X.heap.size) : Below B w w1 := h.trans (hb.mono hB)
set_option maxRecDepth 100000 in
theorem old5 {w w' : World} {B g : Nat} {x : Obj} (h : w.heap[g]? = some x) (hb : Below B w w') (hB : w.heap.size ≤ B) : w'.heap[g]? = some x := (hb.block g (Nat.lt_of_lt_of_le (Array.getElem?_eq_some_iff.1 h).1 hB)).trans h
/-- numbers in memory -/
def Ri5 (w : World) (b o : Nat) (l : List Int) : Prop := ∀ j (h : j < l.length), w.cell? ⟨b, o + j, none⟩ = some (.int .i64 l[j])
set_option maxRecDepth 100000 in
theorem mem_take_succ (l : List Int) (x : Int) (k : Nat) (h : k < l.length) : x ∈ l.take (k + 1) ↔ x ∈ l.take k ∨ x = l[k] := by
  rw [List.take_succ_eq_append_getElem h, List.mem_append, List.mem_singleton]

set_option maxRecDepth 100000 in
theorem refIn_any (b o c m : Nat) (l : List Int) (x : Int) (w : World) (hm : m = l.length) (_hc : m ≤ c) (hm2 : m ≤ 1000) (hr : Ri5 w b o l) :
    Calls Tryd.prog 91 #[.slice (some ⟨b, o, none⟩) m c, .int .i64 x] w fun e w' => e = .returned (.bool (decide (x ∈ l))) ∧ w = w' := by
  have HR := Lib.hid hr
  have HM := Lib.hid hm
  clear hr hm
  go_enter Tryd.func91, Tryd.ntmps91
  go_wp2
  go_loop [5] (fun i => ∃ k : Nat, k ≤ m ∧ i = .int .i64 k ∧ Hid (¬ x ∈ l.take k)) (fun i => m - (intOf i).toNat)
  case atStart => exact ⟨0, Nat.zero_le _, rfl, Lib.hid (by simp)⟩
  case round =>
    obtain ⟨k, hk, rfl, hall⟩ := hrel
    by_cases hlt : k < m
    · have hkl : k < l.length := by have := HM.out; omega
      have hcell := HR.out k hkl
      have hs := mem_take_succ l x k hkl
      obtain ⟨z, hz⟩ : ∃ z, z = l[k] := ⟨_, rfl⟩
      rw [← hz] at hcell hs
      have HS := Lib.hid hs
      have HZ := Lib.hid hz
      have hki : (k : Int) < (m : Int) := by omega
      clear hs hz
      by_cases h : z = x
      · have HE := Lib.hid (show x ∈ l by rw [← h, HZ.out]; exact List.getElem_mem hkl)
        have hzx : (z == x) = true := by simpa using h
        go_wp2
        go_ret
        exact ⟨by rw [decide_eq_true HE.out]; rfl, rfl⟩
      · have HE := Lib.hid (show ¬ x ∈ l.take (k + 1) by rw [HS.out]; rintro (h1 | h1); exact hall.out h1; exact h h1.symm)
        have hzx : (z == x) = false := by simpa using h
        clear h
        go_wp2
        go_round
        case rel => exact ⟨k + 1, by omega, by go_num, HE⟩
        case measure => simp [intOf]; omega
    · have HE := Lib.hid (show ¬ x ∈ l by have := hall.out; rwa [List.take_of_length_le (by have := HM.out; omega)] at this)
      have hki : ¬ (k : Int) < (m : Int) := by omega
      go_wp2
      go_ret
      exact ⟨by rw [decide_eq_false HE.out]; rfl, rfl⟩

end Go.Proofs.YtpfjecjfooefoaaDoor
