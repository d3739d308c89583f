
/- Messages, plain: what is written is read. -/
import Derived.Test.YtpfjecjfooefoaaDoorJ22
import Derived.Test.YtpfjecjfooefoaaDoorJ25
namespace Go.Proofs.YtpfjecjfooefoaaDoor
open Go.RowKit

set_option maxRecDepth 100000 in
theorem fk_bd {no : Int} (h : fk no ≠ 0) : 2 ≤ no ∧ no ≤ 128 ∧ no ≠ 65 := by
  unfold fk at h
  rcases findF_in no rowsF with h1 | ⟨x, hx, -, h3⟩
  · rw [h1] at h; exact absurd rfl h
  · have hall : rowsF.all (fun x => x.2.2.all fun no => decide (2 ≤ no ∧ no ≤ 128 ∧ no ≠ 65)) = true := by decide
    exact of_decide_eq_true (List.all_eq_true.1 (List.all_eq_true.1 hall x hx) no h3)
set_option maxRecDepth 100000 in
theorem read_back_at {no : Int} {v : List UInt8} (pre more : List UInt8) (h : fitsF no v = true) (q : Nat) (hq : q = pre.length) :
    readF no (pre ++ (writeL no v ++ more)) (q : Int) = (v, ((q + (writeL no v).length : Nat) : Int), 0) := by
  subst hq
  obtain ⟨h1, h2, h3, h4, h5⟩ := fits_some h
  have hwl := write_len h
  have e0 : writeL no v = outF5 (fk no) v := by unfold writeL; rw [if_pos h]
  unfold readF
  rw [if_neg h1, if_neg (by simp only [List.length_append]; omega), hwl, e0]
  unfold readH outF5
  simp only [Int.toNat_natCast]
  by_cases hc : 0 < cntF (fk no)
  · have hroom := cnt_room h hc
    have hh : headF (fk no) v.length = packL gFig (dgL 48 10 v.length (cntF (fk no))) := by unfold headF; rw [if_pos hc]
    have hc9 : cntF (fk no) ≤ 3 := cnt_le _
    have ht := tbS_pack pre (dgL 48 10 v.length (cntF (fk no))) (bodyF (fk no) v ++ more) (dgL_fig _ _) (by rw [dgL_length]; omega) pre.length (cntF (fk no)) rfl (by rw [dgL_length])
    rw [if_pos hc, hh, List.append_assoc]
    rw [ht]
    simp only [↓reduceIte]
    rw [val_dgL, Nat.mod_eq_of_lt hroom, if_neg (by omega)]
    have hb := readB_back (fk no) (fl no) v (pre ++ packL gFig (dgL 48 10 v.length (cntF (fk no)))) more h (by omega) _ v.length rfl rfl
    rw [List.length_append, packL_length, dgL_length, List.append_assoc] at hb
    rw [hb, Nat.add_assoc]
  · have hfx := len_fix h hc
    have hh : headF (fk no) v.length = [] := by unfold headF; rw [if_neg hc]
    have h0 : cntF (fk no) = 0 := by omega
    rw [if_neg hc, hh, List.nil_append, h0]
    have hb := readB_back (fk no) (fl no) v pre more h (by omega) pre.length (fl no) rfl hfx.symm
    rw [hb, ← hfx]
    simp
set_option maxRecDepth 100000 in
theorem readC_shift (c : List UInt8) (a : Int) : readC c a = ((readC c 0).1, if (readC c 0).2.2 = 0 then a + (readC c 0).2.1 else 0, (readC c 0).2.2) := by
  unfold readC
  split
  · rfl
  · split
    · rfl
    · split
      · rfl
      · simp
set_option maxRecDepth 100000 in
theorem bm_back_at {l : List Int} (pre more : List UInt8) (h : RightP l) (q : Nat) (hq : q = pre.length) : readM (pre ++ (writeB l ++ more)) (q : Int) = (l, ((q + (writeB l).length : Nat) : Int), 0) := by
  subst hq
  have h0 := bm_read_back more h
  unfold readM at h0 ⊢
  rw [if_neg (by omega), Int.toNat_zero, List.drop_zero] at h0
  rw [if_neg (by simp only [List.length_append]; omega), Int.toNat_natCast, List.drop_left, readC_shift, h0]
  simp
set_option maxRecDepth 100000 in
theorem RightM.keys {t : Int} {l : List Fl} (h : RightM t l) : RightP (keysF l) := by
  intro j hj
  have hj' : j < l.length := by rw [keysF_length] at hj; exact hj
  have e : ∀ i (hi : i < (keysF l).length), (keysF l)[i] = (l[i]'(by rw [keysF_length] at hi; exact hi)).1 := fun i hi => by simp [keysF]
  rw [e j hj]
  obtain ⟨h1, h2⟩ := h.2 j hj'
  obtain ⟨a, b, c⟩ := fk_bd (fits_some h1).1
  exact ⟨a, b, c, fun h0 => by rw [e (j - 1) (by omega)]; exact h2 h0⟩
set_option maxRecDepth 100000 in
theorem valsF_cut (l : List Fl) (k : Nat) (h : k < l.length) : valsF l = valsF (l.take k) ++ (writeL l[k].1 l[k].2 ++ valsF (l.drop (k + 1))) := by
  have e : l = l.take k ++ (l[k] :: l.drop (k + 1)) := by rw [List.getElem_cons_drop, List.take_append_drop]
  conv => lhs; rw [e]
  unfold valsF
  rw [List.flatMap_append, List.flatMap_cons]
set_option maxRecDepth 100000 in
theorem rd_vals {t : Int} {l : List Fl} (h : RightM t l) (pre : List UInt8) : ∀ k, k ≤ l.length →
    rdS (pre ++ valsF l) (keysF l) (pre.length : Int) k = (l.take k, ((pre.length + (valsF (l.take k)).length : Nat) : Int)) := by
  intro k
  induction k with
  | zero => intro _; simp [rdS, valsF]
  | succ k ih =>
    intro hk
    have hk1 : k < l.length := by omega
    have ih := ih (by omega)
    have hgd : (keysF l).getD k 0 = l[k].1 := by rw [List.getD_eq_getElem?_getD, List.getElem?_eq_getElem (by rw [keysF_length]; exact hk1)]; simp [keysF]
    have hb := read_back_at (pre ++ valsF (l.take k)) (valsF (l.drop (k + 1))) (h.2 k hk1).1 (pre.length + (valsF (l.take k)).length) (by rw [List.length_append])
    rw [List.append_assoc, ← valsF_cut l k hk1] at hb
    unfold rdS
    rw [ih, hgd]
    simp only []
    rw [hb, valsF_next l k hk1, List.length_append, List.take_succ_eq_append_getElem hk1]
    simp only [Nat.add_assoc]
set_option maxRecDepth 100000 in
theorem rd_none {t : Int} {l : List Fl} (h : RightM t l) (pre : List UInt8) (k : Nat) (hk1 : k < l.length) : rdX (pre ++ valsF l) (keysF l) (pre.length : Int) k = 0 := by
  have hgd : (keysF l).getD k 0 = l[k].1 := by rw [List.getD_eq_getElem?_getD, List.getElem?_eq_getElem (by rw [keysF_length]; exact hk1)]; simp [keysF]
  have hb := read_back_at (pre ++ valsF (l.take k)) (valsF (l.drop (k + 1))) (h.2 k hk1).1 (pre.length + (valsF (l.take k)).length) (by rw [List.length_append])
  rw [List.append_assoc, ← valsF_cut l k hk1] at hb
  unfold rdX
  rw [rd_vals h pre k (by omega), hgd, hb]
set_option maxRecDepth 100000 in
theorem iso_head {t : Int} {l : List Fl} (h : RightM t l) : isoM t l = packL gFig (dgL 48 10 t.toNat 4) ++ (writeB (keysF l) ++ valsF l) ∧ (packL gFig (dgL 48 10 t.toNat 4)).length = 2 := by
  refine ⟨?_, by rw [packL_length, dgL_length]⟩
  unfold isoM
  rw [show bmW (keysF l) = writeB (keysF l) by unfold bmW; rw [if_pos h.keys], List.append_assoc]
set_option maxRecDepth 100000 in
/-- what is written is read -/
theorem iso_back {t : Int} {l : List Fl} (h : RightM t l) : readMg (isoM t l) = (t, l, 0) := by
  obtain ⟨he, h2⟩ := iso_head h
  obtain ⟨t1, t2, -, -⟩ := typeF_bd h.1
  have hfig := dgL_fig t.toNat 4
  have hT := tbS_pack [] (dgL 48 10 t.toNat 4) (writeB (keysF l) ++ valsF l) hfig (by rw [dgL_length]; omega) 0 4 rfl (by rw [dgL_length])
  rw [List.nil_append, ← he] at hT
  have hN : (rdN (isoM t l) : Int) = t := by
    unfold rdN
    rw [show ((0 : Nat) : Int) = 0 from rfl, show ((4 : Nat) : Int) = 4 from rfl] at hT
    rw [hT, valR_ok _ (by rw [dgL_length]; omega) (by rw [dgL_length]; omega) hfig]
    show ((val (dgL 48 10 t.toNat 4) : Nat) : Int) = t
    rw [val_dgL, Nat.mod_eq_of_lt (by omega)]
    omega
  have hM := bm_back_at (packL gFig (dgL 48 10 t.toNat 4)) (valsF l) h.keys 2 h2.symm
  rw [← he] at hM
  have hp : packL gFig (dgL 48 10 t.toNat 4) ++ (writeB (keysF l) ++ valsF l) = (packL gFig (dgL 48 10 t.toNat 4) ++ writeB (keysF l)) ++ valsF l := (List.append_assoc ..).symm
  have hpl : (packL gFig (dgL 48 10 t.toNat 4) ++ writeB (keysF l)).length = 2 + (writeB (keysF l)).length := by rw [List.length_append, h2]
  have hlen : (isoM t l).length = 2 + (writeB (keysF l)).length + (valsF l).length := by rw [he, hp, List.length_append, hpl]
  have hV := rd_vals h (packL gFig (dgL 48 10 t.toNat 4) ++ writeB (keysF l)) l.length (Nat.le_refl _)
  rw [← hp, ← he, hpl, List.take_length] at hV
  have hQ := rdQ_none (b := isoM t l) (l := keysF l) (a := ((2 + (writeB (keysF l)).length : Nat) : Int)) (fun j hj => by
    have := rd_none h (packL gFig (dgL 48 10 t.toNat 4) ++ writeB (keysF l)) j (by rw [keysF_length] at hj; exact hj)
    rw [← hp, ← he, hpl] at this
    exact this)
  unfold readMg
  rw [show ((0 : Nat) : Int) = 0 from rfl, show ((4 : Nat) : Int) = 4 from rfl] at hT
  rw [show ((2 : Nat) : Int) = 2 from rfl] at hM
  rw [if_neg (by omega), if_neg (by rw [hT, hN]; exact fun hh => hh ⟨rfl, h.1⟩), hM]
  simp only []
  rw [if_neg (by simp), if_neg, hQ, if_neg (by simp), keysF_length, hV, if_neg (by rw [hlen]; simp), hN]
  intro hh
  apply hh
  intro x hx
  obtain ⟨y, hy, rfl⟩ := List.mem_map.1 hx
  obtain ⟨j, hj, rfl⟩ := List.getElem_of_mem hy
  exact (fits_some (h.2 j hj).1).1
set_option maxRecDepth 100000 in
/-- what is not read -/
theorem iso_bad (b : List UInt8) (h : (readMg b).2.2 ≠ 0) : (readMg b).1 = 0 ∧ (readMg b).2.1 = [] := by
  unfold readMg at h ⊢
  split
  · exact ⟨rfl, rfl⟩
  · rename_i h1
    rw [if_neg h1] at h
    split
    · exact ⟨rfl, rfl⟩
    · rename_i h2
      rw [if_neg h2] at h
      split
      · exact ⟨rfl, rfl⟩
      · rename_i h3
        rw [if_neg h3] at h
        split
        · exact ⟨rfl, rfl⟩
        · rename_i h4
          rw [if_neg h4] at h
          split
          · exact ⟨rfl, rfl⟩
          · rename_i h5
            rw [if_neg h5] at h
            split
            · exact ⟨rfl, rfl⟩
            · rename_i h6
              rw [if_neg h6] at h
              exact absurd rfl h
end Go.Proofs.YtpfjecjfooefoaaDoor
/- Messages, plain: what is read is right, and written so. -/

namespace Go.Proofs.YtpfjecjfooefoaaDoor
open Go.RowKit

set_option maxRecDepth 100000 in
theorem rdQ_zero {b : List UInt8} {l : List Int} {a : Int} (h : rdQ b l a = 0) : ∀ j, j < l.length → rdX b l a j = 0 := by
  intro j hj
  unfold rdQ at h
  cases hf : ((List.range l.length).map (rdX b l a)).find? (fun x => decide (x ≠ 0)) with
  | none =>
    rw [List.find?_eq_none] at hf
    have := hf (rdX b l a j) (List.mem_map.2 ⟨j, List.mem_range.2 hj, rfl⟩)
    simpa using this
  | some x =>
    rw [hf] at h
    have h1 := List.find?_some hf
    have h2 : x = 0 := h
    subst h2
    exact absurd h1 (by decide)
set_option maxRecDepth 100000 in
theorem rd_ok (b : List UInt8) (L : List Int) (e : Nat) (he : e ≤ b.length) (hx : ∀ j, j < L.length → rdX b L (e : Int) j = 0) : ∀ k, k ≤ L.length →
    ∃ q : Nat, (rdS b L (e : Int) k).2 = (q : Int) ∧ e ≤ q ∧ q ≤ b.length ∧ keysF (rdS b L (e : Int) k).1 = L.take k ∧ (∀ x ∈ (rdS b L (e : Int) k).1, fitsF x.1 x.2 = true) ∧ valsF (rdS b L (e : Int) k).1 = (b.drop e).take (q - e) := by
  intro k
  induction k with
  | zero => intro _; exact ⟨e, rfl, Nat.le_refl _, he, rfl, fun x hx => absurd hx (by simp [rdS]), by simp [rdS, valsF]⟩
  | succ k ih =>
    intro hk
    obtain ⟨q, h1, h2, h3, h4, h5, h6⟩ := ih (by omega)
    have hk1 : k < L.length := by omega
    have hgd : L.getD k 0 = L[k] := by rw [List.getD_eq_getElem?_getD, List.getElem?_eq_getElem hk1]; rfl
    have h0 := hx k hk1
    unfold rdX at h0
    rw [h1, hgd] at h0
    obtain ⟨f1, p, f2, f3, f4, f5⟩ := read_ok L[k] b q h0
    have hs : rdS b L (e : Int) (k + 1) = ((rdS b L (e : Int) k).1 ++ [(L[k], (readF L[k] b (q : Int)).1)], (readF L[k] b (q : Int)).2.1) := by
      show ((rdS b L (e : Int) k).1 ++ [(L.getD k 0, (readF (L.getD k 0) b (rdS b L (e : Int) k).2).1)], (readF (L.getD k 0) b (rdS b L (e : Int) k).2).2.1) = _
      rw [h1, hgd]
    refine ⟨p, by rw [hs]; exact f2, by omega, f4, ?_, ?_, ?_⟩
    · rw [hs, List.take_succ_eq_append_getElem hk1, ← h4]
      simp [keysF]
    · intro x hx
      rw [hs] at hx
      rcases List.mem_append.1 hx with hx | hx
      · exact h5 x hx
      · rw [List.mem_singleton.1 hx]; exact f1
    · rw [hs]
      show valsF (_ ++ [_]) = _
      have ev : ∀ (l : List Fl) (x : Fl), valsF (l ++ [x]) = valsF l ++ writeL x.1 x.2 := fun l x => by simp [valsF]
      rw [ev, h6, f5]
      have e1 : (b.drop e).take (p - e) = (b.drop e).take (q - e) ++ ((b.drop e).drop (q - e)).take (p - q) := by
        rw [show p - e = (q - e) + (p - q) by omega, List.take_add]
      rw [e1, List.drop_drop, show e + (q - e) = q by omega]
set_option maxRecDepth 100000 in
/-- what is read is right, and written so -/
theorem iso_ok (b : List UInt8) (h : (readMg b).2.2 = 0) : RightM (readMg b).1 (readMg b).2.1 ∧ isoM (readMg b).1 (readMg b).2.1 = b ∧ (readMg b).2.1.length ≤ 130 := by
  unfold readMg at h ⊢
  by_cases h1 : b.length < 2
  · rw [if_pos h1] at h; exact absurd h (by decide)
  rw [if_neg h1] at h ⊢
  by_cases h2 : ¬ ((tbS b 0 4).2.2 = 0 ∧ typeF (rdN b : Int) = true)
  · rw [if_pos h2] at h; exact absurd h (by decide)
  rw [if_neg h2] at h ⊢
  by_cases h3 : (readM b 2).2.2 ≠ 0
  · rw [if_pos h3] at h; exact absurd h h3
  rw [if_neg h3] at h ⊢
  by_cases h4 : ¬ ∀ x ∈ (readM b 2).1, fk x ≠ 0
  · rw [if_pos h4] at h; exact absurd h (by decide)
  rw [if_neg h4] at h ⊢
  by_cases h5 : rdQ b (readM b 2).1 (readM b 2).2.1 ≠ 0
  · rw [if_pos h5] at h; exact absurd h h5
  rw [if_neg h5] at h ⊢
  by_cases h6 : (rdS b (readM b 2).1 (readM b 2).2.1 (readM b 2).1.length).2 < (b.length : Int)
  · rw [if_pos h6] at h; exact absurd h (by decide)
  rw [if_neg h6]
  obtain ⟨ht, hty⟩ := Classical.not_not.1 h2
  have h3 := Classical.not_not.1 h3
  have h5 := Classical.not_not.1 h5
  obtain ⟨e, m1, m2, m3, m4, m5⟩ := bm_read_ok b 2 h3
  rw [show ((2 : Nat) : Int) = 2 from rfl] at m1 m2 m5
  have hlen := readM_len b 2
  generalize (readM b 2).1 = L at *
  rw [m2] at h5 h6 ⊢
  obtain ⟨q, r1, r2, r3, r4, r5, r6⟩ := rd_ok b L e m4 (rdQ_zero h5) L.length (Nat.le_refl _)
  rw [r1] at h6
  rw [List.take_length] at r4
  generalize (rdS b L (e : Int) L.length).1 = fs at *
  have hfl : fs.length = L.length := by rw [← r4, keysF_length]
  obtain ⟨t1, t2, t3, t4, t5⟩ := tbS_ok b 0 4 ht
  rw [show ((0 : Nat) : Int) = 0 from rfl, show ((4 : Nat) : Int) = 4 from rfl] at t2 t3 t4 t5
  have hN : rdN b = val (tbS b 0 4).1 := by unfold rdN; rw [valR_ok _ (by omega) (by omega) t4]
  have hd : dgL 48 10 (rdN b) 4 = (tbS b 0 4).1 := by
    have := dgL_val (tbS b 0 4).1 t4
    rw [t3] at this
    rw [hN]; exact this
  have hR : RightM (rdN b : Int) fs := by
    refine ⟨hty, fun j hj => ⟨r5 _ (List.getElem_mem hj), fun h0 => ?_⟩⟩
    have hjL : j < L.length := by omega
    have e1 : ∀ i (hi : i < fs.length), fs[i].1 = L[i]'(by omega) := fun i hi => by
      have h1 : (keysF fs)[i]? = L[i]? := by rw [r4]
      rw [List.getElem?_eq_getElem (by rw [keysF_length]; exact hi), List.getElem?_eq_getElem (by omega)] at h1
      have h2 := Option.some.inj h1
      rw [← h2]
      simp [keysF]
    rw [e1 j hj, e1 (j - 1) (by omega)]
    exact (m1 j hjL).2.2.2 h0
  refine ⟨hR, ?_, by show fs.length ≤ 130; omega⟩
  show isoM (rdN b : Int) fs = b
  rw [(iso_head hR).1, Int.toNat_natCast, hd, t5, r4, m5, r6]
  have hq : q = b.length := by omega
  have e0 : (b.drop e).take (b.length - e) = b.drop e := List.take_of_length_le (by rw [List.length_drop]; omega)
  rw [hq, e0, List.drop_zero, show (4 + 1) / 2 = 2 from rfl]
  have e1 : (b.drop 2).take (e - 2) ++ b.drop e = b.drop 2 := by
    have := List.take_append_drop (e - 2) (b.drop 2)
    rw [List.drop_drop, show 2 + (e - 2) = e by omega] at this
    exact this
  rw [e1, List.take_append_drop]
end Go.Proofs.YtpfjecjfooefoaaDoor
/- Messages, plain: bytes cut off are short; with more behind them, long. -/

namespace Go.Proofs.YtpfjecjfooefoaaDoor
open Go.RowKit

set_option maxRecDepth 100000 in
theorem tbS_shift (pre s : List UInt8) (q m : Nat) : (tbS (pre ++ s) ((pre.length + q : Nat) : Int) m).1 = (tbS s q m).1 ∧ (tbS (pre ++ s) ((pre.length + q : Nat) : Int) m).2.2 = (tbS s q m).2.2 := by
  have e : (pre ++ s).drop (pre.length + q) = s.drop q := by rw [← List.drop_drop, List.drop_left]
  have hl : (pre ++ s).length = pre.length + s.length := List.length_append
  unfold tbS
  simp only [Int.toNat_natCast, e, hl]
  by_cases h1 : (m : Int) < 0 ∨ 999 < (m : Int) ∨ (q : Int) < 0 ∨ (s.length : Int) < (q : Int)
  · rw [if_pos h1, if_pos (by omega)]; exact ⟨rfl, rfl⟩
  · rw [if_neg h1, if_neg (by omega)]
    by_cases h2 : s.length < q + (m + 1) / 2
    · rw [if_pos h2, if_pos (by omega)]; exact ⟨rfl, rfl⟩
    · rw [if_neg h2, if_neg (by omega)]
      split <;> exact ⟨rfl, rfl⟩
set_option maxRecDepth 100000 in
theorem readB_shift (k n : Nat) (pre s : List UInt8) (q m : Nat) : (readB k n (pre ++ s) (pre.length + q) m).2.2 = (readB k n s q m).2.2 := by
  have e : (pre ++ s).drop (pre.length + q) = s.drop q := by rw [← List.drop_drop, List.drop_left]
  have hl : (pre ++ s).length = pre.length + s.length := List.length_append
  obtain ⟨t1, t2⟩ := tbS_shift pre s q m
  unfold readB
  rw [t1, t2, e, hl]
  by_cases h1 : s.length < q + sizeF k m
  · rw [if_pos h1, if_pos (by omega)]
  · rw [if_neg h1, if_neg (by omega)]
    split
    · split
      · split <;> rfl
      · rfl
    · split <;> rfl
set_option maxRecDepth 100000 in
theorem readF_shift (no : Int) (pre s : List UInt8) (q : Nat) (hq : q = pre.length) : (readF no (pre ++ s) (q : Int)).2.2 = (readF no s 0).2.2 := by
  subst hq
  have hl : (pre ++ s).length = pre.length + s.length := List.length_append
  unfold readF
  split
  · rfl
  · rw [if_neg (by omega), if_neg (by omega), Int.toNat_natCast, Int.toNat_zero]
    unfold readH
    obtain ⟨t1, t2⟩ := tbS_shift pre s 0 (cntF (fk no))
    rw [Nat.add_zero] at t1 t2
    rw [t1, t2]
    split
    · split
      · split
        · rfl
        · rw [Nat.add_comm 0, Nat.add_zero]
          exact readB_shift _ _ pre s _ _
      · rfl
    · have := readB_shift (fk no) (fl no) pre s 0 (fl no)
      rw [Nat.add_zero] at this
      exact this
set_option maxRecDepth 100000 in
/-- a place that lies in the values: which value it lies in -/
theorem vals_at (l : List Fl) : ∀ c, c < (valsF l).length → ∃ k, ∃ h : k < l.length, (valsF (l.take k)).length ≤ c ∧ c < (valsF (l.take k)).length + (writeL l[k].1 l[k].2).length := by
  induction l with
  | nil => intro c hc; exact absurd hc (by simp [valsF])
  | cons x r ih =>
    intro c hc
    have e : valsF (x :: r) = writeL x.1 x.2 ++ valsF r := rfl
    rw [e, List.length_append] at hc
    by_cases h : c < (writeL x.1 x.2).length
    · exact ⟨0, by simp, by simp [valsF], by simpa [valsF] using h⟩
    · obtain ⟨k, hk, h1, h2⟩ := ih (c - (writeL x.1 x.2).length) (by omega)
      refine ⟨k + 1, by simpa using hk, ?_, ?_⟩
      · show (valsF (x :: r.take k)).length ≤ c
        show (writeL x.1 x.2 ++ valsF (r.take k)).length ≤ c
        rw [List.length_append]; omega
      · show c < (writeL x.1 x.2 ++ valsF (r.take k)).length + (writeL r[k].1 r[k].2).length
        rw [List.length_append]; omega
set_option maxRecDepth 100000 in
/-- values read out of what is cut, or longer -/
theorem rd_vals_of {t : Int} {l : List Fl} (h : RightM t l) (pre b : List UInt8) (n : Nat) (hn : n ≤ l.length) (hb : ∃ more, b = pre ++ (valsF (l.take n) ++ more)) : ∀ k, k ≤ n →
    rdS b (keysF l) (pre.length : Int) k = (l.take k, ((pre.length + (valsF (l.take k)).length : Nat) : Int)) ∧ (∀ j, j < k → rdX b (keysF l) (pre.length : Int) j = 0) := by
  intro k
  induction k with
  | zero => intro _; exact ⟨by simp [rdS, valsF], fun j hj => absurd hj (by omega)⟩
  | succ k ih =>
    intro hk
    have hk1 : k < l.length := by omega
    obtain ⟨ih, ihx⟩ := ih (by omega)
    have hgd : (keysF l).getD k 0 = l[k].1 := by rw [List.getD_eq_getElem?_getD, List.getElem?_eq_getElem (by rw [keysF_length]; exact hk1)]; simp [keysF]
    obtain ⟨more, hm⟩ := hb
    have hkt : k < (l.take n).length := by rw [List.length_take]; omega
    have hc := valsF_cut (l.take n) k hkt
    rw [List.take_take, Nat.min_eq_left (by omega), List.getElem_take] at hc
    have hb2 := read_back_at (pre ++ valsF (l.take k)) (valsF ((l.take n).drop (k + 1)) ++ more) (h.2 k hk1).1 (pre.length + (valsF (l.take k)).length) (by rw [List.length_append])
    have he : (pre ++ valsF (l.take k)) ++ (writeL l[k].1 l[k].2 ++ (valsF ((l.take n).drop (k + 1)) ++ more)) = b := by
      rw [hm, hc]; simp only [List.append_assoc]
    rw [he] at hb2
    refine ⟨?_, fun j hj => ?_⟩
    · unfold rdS
      rw [ih, hgd]
      simp only []
      rw [hb2, valsF_next l k hk1, List.length_append, List.take_succ_eq_append_getElem hk1]
      simp only [Nat.add_assoc]
    · by_cases e : j = k
      · subst e
        unfold rdX
        rw [ih, hgd, hb2]
      · exact ihx j (by omega)
set_option maxRecDepth 100000 in
/-- the number and the list of fields, read out of bytes that begin with both -/
theorem iso_begin {t : Int} {l : List Fl} (h : RightM t l) (rest : List UInt8) (b : List UInt8) (hb : b = packL gFig (dgL 48 10 t.toNat 4) ++ (writeB (keysF l) ++ rest)) :
    2 ≤ b.length ∧ ((tbS b 0 4).2.2 = 0 ∧ typeF (rdN b : Int) = true) ∧ (rdN b : Int) = t ∧ readM b 2 = (keysF l, ((2 + (writeB (keysF l)).length : Nat) : Int), 0) ∧ ∀ x ∈ keysF l, fk x ≠ 0 := by
  have h2 := (iso_head h).2
  obtain ⟨t1, t2, -, -⟩ := typeF_bd h.1
  have hfig := dgL_fig t.toNat 4
  have hT := tbS_pack [] (dgL 48 10 t.toNat 4) (writeB (keysF l) ++ rest) hfig (by rw [dgL_length]; omega) 0 4 rfl (by rw [dgL_length])
  rw [List.nil_append, ← hb, show ((0 : Nat) : Int) = 0 from rfl, show ((4 : Nat) : Int) = 4 from rfl] at hT
  have hN : (rdN b : Int) = t := by
    unfold rdN
    rw [hT, valR_ok _ (by rw [dgL_length]; omega) (by rw [dgL_length]; omega) hfig]
    show ((val (dgL 48 10 t.toNat 4) : Nat) : Int) = t
    rw [val_dgL, Nat.mod_eq_of_lt (by omega)]
    omega
  have hM := bm_back_at (packL gFig (dgL 48 10 t.toNat 4)) rest h.keys 2 h2.symm
  rw [← hb, show ((2 : Nat) : Int) = 2 from rfl] at hM
  refine ⟨by rw [hb, List.length_append, h2]; omega, ⟨by rw [hT], by rw [hN]; exact h.1⟩, hN, hM, fun x hx => ?_⟩
  obtain ⟨y, hy, rfl⟩ := List.mem_map.1 hx
  obtain ⟨j, hj, rfl⟩ := List.getElem_of_mem hy
  exact (fits_some (h.2 j hj).1).1
set_option maxRecDepth 100000 in
/-- with more behind it: long -/
theorem iso_long {t : Int} {l : List Fl} (h : RightM t l) (more : List UInt8) (hm : 0 < more.length) : (readMg (isoM t l ++ more)).2.2 = 4 := by
  obtain ⟨he, h2⟩ := iso_head h
  have hb : isoM t l ++ more = packL gFig (dgL 48 10 t.toNat 4) ++ (writeB (keysF l) ++ (valsF l ++ more)) := by rw [he]; simp only [List.append_assoc]
  obtain ⟨b1, b2, b3, b4, b5⟩ := iso_begin h (valsF l ++ more) _ hb
  have hp : isoM t l ++ more = (packL gFig (dgL 48 10 t.toNat 4) ++ writeB (keysF l)) ++ (valsF (l.take l.length) ++ more) := by rw [hb, List.take_length]; simp only [List.append_assoc]
  have hpl : (packL gFig (dgL 48 10 t.toNat 4) ++ writeB (keysF l)).length = 2 + (writeB (keysF l)).length := by rw [List.length_append, h2]
  obtain ⟨v1, v2⟩ := rd_vals_of h _ _ l.length (Nat.le_refl _) ⟨more, hp⟩ l.length (Nat.le_refl _)
  rw [hpl, List.take_length] at v1
  rw [hpl] at v2
  have hlen : (isoM t l ++ more).length = 2 + (writeB (keysF l)).length + (valsF l).length + more.length := by rw [hp, List.length_append, hpl, List.length_append, List.take_length]; omega
  unfold readMg
  rw [if_neg (by omega), if_neg (fun hh => hh b2), b4]
  simp only []
  rw [if_neg (by simp), if_neg (fun hh => hh b5), rdQ_none (fun j hj => v2 j (by rw [keysF_length] at hj; exact hj)), if_neg (by simp), keysF_length, v1, if_pos (by rw [hlen]; simp only []; omega)]
set_option maxRecDepth 100000 in
/-- cut off: short -/
theorem iso_cut {t : Int} {l : List Fl} (h : RightM t l) (c : Nat) (hc : c < (isoM t l).length) : (readMg ((isoM t l).take c)).2.2 = 3 := by
  obtain ⟨he, h2⟩ := iso_head h
  have hcl : ((isoM t l).take c).length = c := by rw [List.length_take]; omega
  by_cases h0 : c < 2
  · unfold readMg
    rw [if_pos (by omega)]
  by_cases h1 : c < 2 + (writeB (keysF l)).length
  · have hb : (isoM t l).take c = packL gFig (dgL 48 10 t.toNat 4) ++ (writeB (keysF l)).take (c - 2) := by
      rw [he, List.take_append, List.take_of_length_le (by omega), h2, List.take_append, show c - 2 - (writeB (keysF l)).length = 0 by omega, List.take_zero, List.append_nil]
    obtain ⟨t1, t2, -, -⟩ := typeF_bd h.1
    have hfig := dgL_fig t.toNat 4
    have hT := tbS_pack [] (dgL 48 10 t.toNat 4) ((writeB (keysF l)).take (c - 2)) hfig (by rw [dgL_length]; omega) 0 4 rfl (by rw [dgL_length])
    rw [List.nil_append, ← hb, show ((0 : Nat) : Int) = 0 from rfl, show ((4 : Nat) : Int) = 4 from rfl] at hT
    have hN : (rdN ((isoM t l).take c) : Int) = t := by
      unfold rdN
      rw [hT, valR_ok _ (by rw [dgL_length]; omega) (by rw [dgL_length]; omega) hfig]
      show ((val (dgL 48 10 t.toNat 4) : Nat) : Int) = t
      rw [val_dgL, Nat.mod_eq_of_lt (by omega)]
      omega
    have hM : (readM ((isoM t l).take c) 2).2.2 = 3 := by
      have hk := bm_read_cut (c - 2) h.keys (by omega)
      unfold readM at hk ⊢
      rw [if_neg (by omega), Int.toNat_zero, List.drop_zero] at hk
      rw [if_neg (by rw [hcl]; omega), hb, show ((2 : Int).toNat) = 2 from rfl]
      rw [show (packL gFig (dgL 48 10 t.toNat 4) ++ (writeB (keysF l)).take (c - 2)).drop 2 = (writeB (keysF l)).take (c - 2) from List.drop_left' h2]
      rw [readC_shift]
      exact hk
    unfold readMg
    rw [if_neg (by omega), if_neg (fun hh => hh ⟨by rw [hT], by rw [hN]; exact h.1⟩), if_pos (by rw [hM]; decide), hM]
  · have hsplit : isoM t l = (packL gFig (dgL 48 10 t.toNat 4) ++ writeB (keysF l)) ++ valsF l := by rw [he, List.append_assoc]
    have hpl : (packL gFig (dgL 48 10 t.toNat 4) ++ writeB (keysF l)).length = 2 + (writeB (keysF l)).length := by rw [List.length_append, h2]
    have hlen : (isoM t l).length = 2 + (writeB (keysF l)).length + (valsF l).length := by rw [hsplit, List.length_append, hpl]
    obtain ⟨k, hk, k1, k2⟩ := vals_at l (c - (2 + (writeB (keysF l)).length)) (by omega)
    have hb0 : (isoM t l).take c = (packL gFig (dgL 48 10 t.toNat 4) ++ writeB (keysF l)) ++ (valsF l).take (c - (2 + (writeB (keysF l)).length)) := by
      rw [hsplit, List.take_append, List.take_of_length_le (by omega), hpl]
    have hv : (valsF l).take (c - (2 + (writeB (keysF l)).length)) = valsF (l.take k) ++ (writeL l[k].1 l[k].2).take (c - (2 + (writeB (keysF l)).length) - (valsF (l.take k)).length) := by
      rw [valsF_cut l k hk, List.take_append, List.take_of_length_le k1, List.take_append, show c - (2 + (writeB (keysF l)).length) - (valsF (l.take k)).length - (writeL l[k].1 l[k].2).length = 0 by omega, List.take_zero, List.append_nil]
    obtain ⟨b1, b2, b3, b4, b5⟩ := iso_begin h ((valsF l).take (c - (2 + (writeB (keysF l)).length))) ((isoM t l).take c) (by rw [hb0, List.append_assoc])
    obtain ⟨v1, v2⟩ := rd_vals_of h (packL gFig (dgL 48 10 t.toNat 4) ++ writeB (keysF l)) ((isoM t l).take c) k (by omega) ⟨_, by rw [hb0, hv]⟩ k (Nat.le_refl _)
    rw [hpl] at v1 v2
    have hgd : (keysF l).getD k 0 = l[k].1 := by rw [List.getD_eq_getElem?_getD, List.getElem?_eq_getElem (by rw [keysF_length]; exact hk)]; simp [keysF]
    have hx : rdX ((isoM t l).take c) (keysF l) ((2 + (writeB (keysF l)).length : Nat) : Int) k = 3 := by
      unfold rdX
      rw [v1, hgd]
      simp only []
      rw [hb0, hv, ← List.append_assoc, readF_shift _ _ _ _ (by rw [List.length_append, hpl])]
      exact read_cut _ (h.2 k hk).1 (by omega)
    have hq := rdQ_at (by rw [keysF_length]; exact hk) v2 (by rw [hx]; decide)
    rw [hx] at hq
    unfold readMg
    rw [if_neg (by omega), if_neg (fun hh => hh b2), b4]
    simp only []
    rw [if_neg (by simp), if_neg (fun hh => hh b5), hq, if_pos (by decide)]
end Go.Proofs.YtpfjecjfooefoaaDoor
