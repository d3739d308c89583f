
/- Messages, plain: apart; what is set, got and dropped. -/
import Derived.Test.YtpfjecjfooefoaaDoorJ26
import Derived.Test.YtpfjecjfooefoaaDoorJ17
import Derived.Deep.QuietTactic
import Derived.BigQuiet
namespace Go.Proofs.YtpfjecjfooefoaaDoor
open Go.RowKit

set_option maxRecDepth 100000 in
theorem iso_apart {t u : Int} {l m : List Fl} (ha : RightM t l) (hb : RightM u m) (n : Nat) (hn : n = min (isoM t l).length (isoM u m).length) :
    (isoM t l).take n = (isoM u m).take n ↔ t = u ∧ l = m := by
  constructor
  · intro h
    have key : ∀ {t u : Int} {l m : List Fl}, RightM t l → RightM u m → (isoM t l).length ≤ (isoM u m).length → (isoM t l).take (isoM t l).length = (isoM u m).take (isoM t l).length → t = u ∧ l = m := by
      intro t u l m ha hb hle h
      rw [List.take_length] at h
      by_cases hlt : (isoM t l).length < (isoM u m).length
      · have h1 := iso_cut hb _ hlt
        rw [← h, iso_back ha] at h1
        exact absurd (show (0 : Int) = 3 from h1) (by decide)
      · rw [List.take_of_length_le (by omega)] at h
        have h1 := iso_back ha
        rw [h, iso_back hb] at h1
        simp only [Prod.mk.injEq] at h1
        exact ⟨h1.1.symm, h1.2.1.symm⟩
    by_cases hle : (isoM t l).length ≤ (isoM u m).length
    · rw [show n = (isoM t l).length by omega] at h
      exact key ha hb hle h
    · rw [show n = (isoM u m).length by omega] at h
      obtain ⟨h1, h2⟩ := key hb ha (by omega) h.symm
      exact ⟨h1.symm, h2.symm⟩
  · rintro ⟨rfl, rfl⟩
    rfl
/-- rising numbers -/
def UpF (l : List Fl) : Prop := l.Pairwise fun x y => x.1 < y.1
set_option maxRecDepth 100000 in
theorem rightM_iff {t : Int} {l : List Fl} : RightM t l ↔ typeF t = true ∧ (∀ x ∈ l, fitsF x.1 x.2 = true) ∧ UpF l := by
  constructor
  · rintro ⟨h1, h2⟩
    refine ⟨h1, fun x hx => ?_, ?_⟩
    · obtain ⟨j, hj, rfl⟩ := List.getElem_of_mem hx
      exact (h2 j hj).1
    · unfold UpF
      rw [List.pairwise_iff_getElem]
      intro i j hi hj hij
      induction j with
      | zero => omega
      | succ j ih =>
        have hs : l[j].1 < l[j + 1].1 := (h2 (j + 1) hj).2 (by omega)
        by_cases e : i = j
        · subst e; exact hs
        · have := ih (by omega) (by omega)
          omega
  · rintro ⟨h1, h2, h3⟩
    unfold UpF at h3
    rw [List.pairwise_iff_getElem] at h3
    exact ⟨h1, fun j hj => ⟨h2 _ (List.getElem_mem hj), fun h0 => h3 (j - 1) j (by omega) hj (by omega)⟩⟩
set_option maxRecDepth 100000 in
theorem UpF.filter {l : List Fl} (h : UpF l) (p : Fl → Bool) : UpF (l.filter p) := List.Pairwise.sublist List.filter_sublist h
set_option maxRecDepth 100000 in
theorem setL_right {t : Int} {l : List Fl} {no : Int} {v : List UInt8} (h : RightM t l) (hv : fitsF no v = true) : RightM t (setL l no v) := by
  obtain ⟨h1, h2, h3⟩ := rightM_iff.1 h
  refine rightM_iff.2 ⟨h1, fun x hx => ?_, ?_⟩
  · unfold setL at hx
    simp only [List.mem_append, List.mem_filter, List.mem_singleton] at hx
    rcases hx with (hx | hx) | hx
    · exact h2 x hx.1
    · rw [hx]; exact hv
    · exact h2 x hx.1
  · unfold setL UpF
    rw [List.pairwise_append, List.pairwise_append]
    refine ⟨⟨h3.filter _, by simp, fun x hx y hy => ?_⟩, h3.filter _, fun x hx y hy => ?_⟩
    · simp only [List.mem_filter, decide_eq_true_eq, List.mem_singleton] at hx hy
      rw [hy]; exact hx.2
    · simp only [List.mem_append, List.mem_filter, decide_eq_true_eq, List.mem_singleton] at hx hy
      rcases hx with hx | hx
      · have := hx.2; have := hy.2; omega
      · rw [hx]; exact hy.2
set_option maxRecDepth 100000 in
theorem drop_right {t : Int} {l : List Fl} {no : Int} (h : RightM t l) : RightM t (dropF l no) := by
  obtain ⟨h1, h2, h3⟩ := rightM_iff.1 h
  exact rightM_iff.2 ⟨h1, fun x hx => h2 x (List.mem_filter.1 hx).1, h3.filter _⟩
set_option maxRecDepth 100000 in
theorem drop_set (l : List Fl) (no : Int) (v : List UInt8) (h : UpF l) : dropF (setL l no v) no = dropF l no := by
  unfold dropF setL
  simp only [List.filter_append, List.filter_filter]
  rw [show ([(no, v)] : List Fl).filter (fun x => decide (x.1 ≠ no)) = [] by simp, List.append_nil]
  induction l with
  | nil => rfl
  | cons x r ih =>
    have ih := ih (List.Pairwise.of_cons h)
    have hx : ∀ y ∈ r, x.1 < y.1 := (List.pairwise_cons.1 h).1
    rcases Int.lt_trichotomy x.1 no with h1 | h1 | h1
    · rw [List.filter_cons_of_pos (by simp; omega), List.filter_cons_of_neg (l := r) (p := fun a => decide (a.1 ≠ no) && decide (no < a.1)) (by simp; omega), List.filter_cons_of_pos (by simp; omega), List.cons_append, ih]
    · rw [List.filter_cons_of_neg (by simp; omega), List.filter_cons_of_neg (l := r) (p := fun a => decide (a.1 ≠ no) && decide (no < a.1)) (by simp; omega), List.filter_cons_of_neg (by simp; omega), ih]
    · have hn : r.filter (fun a => decide (a.1 ≠ no) && decide (a.1 < no)) = [] := by
        rw [List.filter_eq_nil_iff]
        intro y hy
        have := hx y hy
        simp; omega
      rw [hn, List.nil_append] at ih
      rw [List.filter_cons_of_neg (by simp; omega), hn, List.nil_append, List.filter_cons_of_pos (by simp; omega), List.filter_cons_of_pos (by simp; omega), ih]
set_option maxRecDepth 100000 in
theorem set_set (l : List Fl) (no : Int) (v w : List UInt8) : setL (setL l no v) no w = setL l no w := by
  unfold setL
  have e1 : ((l.filter fun x => decide (x.1 < no)) ++ [(no, v)] ++ (l.filter fun x => decide (no < x.1))).filter (fun x => decide (x.1 < no)) = l.filter fun x => decide (x.1 < no) := by
    simp only [List.filter_append, List.filter_filter]
    rw [show ([(no, v)] : List Fl).filter (fun x => decide (x.1 < no)) = [] by simp, List.append_nil]
    rw [show l.filter (fun a => decide (a.1 < no) && decide (no < a.1)) = [] by rw [List.filter_eq_nil_iff]; intro y _; simp; omega, List.append_nil]
    congr 1
    funext a
    simp
  have e2 : ((l.filter fun x => decide (x.1 < no)) ++ [(no, v)] ++ (l.filter fun x => decide (no < x.1))).filter (fun x => decide (no < x.1)) = l.filter fun x => decide (no < x.1) := by
    simp only [List.filter_append, List.filter_filter]
    rw [show ([(no, v)] : List Fl).filter (fun x => decide (no < x.1)) = [] by simp, List.append_nil]
    rw [show l.filter (fun a => decide (no < a.1) && decide (a.1 < no)) = [] by rw [List.filter_eq_nil_iff]; intro y _; simp; omega, List.nil_append]
    congr 1
    funext a
    simp
  rw [e1, e2]
set_option maxRecDepth 100000 in
theorem get_append : ∀ (a b : List Fl) (o : Int), getL (a ++ b) o = (if getY a o = true then getL a o else getL b o) ∧ getY (a ++ b) o = (getY a o || getY b o)
  | [], b, o => by simp [getY]
  | x :: r, b, o => by
    obtain ⟨h1, h2⟩ := get_append r b o
    constructor
    · show (if x.1 = o then x.2 else getL (r ++ b) o) = if getY (x :: r) o = true then (if x.1 = o then x.2 else getL r o) else getL b o
      by_cases h : x.1 = o
      · rw [if_pos h, if_pos h, if_pos (by simp [getY, h])]
      · rw [if_neg h, if_neg h, h1, show getY (x :: r) o = getY r o by simp [getY, h]]
    · unfold getY
      rw [List.any_append]
set_option maxRecDepth 100000 in
theorem get_filter (p : Fl → Bool) (o : Int) : ∀ (l : List Fl), (∀ x ∈ l, x.1 = o → p x = true) → getL (l.filter p) o = getL l o ∧ getY (l.filter p) o = getY l o
  | [], _ => ⟨rfl, rfl⟩
  | x :: r, h => by
    obtain ⟨h1, h2⟩ := get_filter p o r (fun y hy => h y (List.mem_cons_of_mem _ hy))
    by_cases hp : p x = true
    · rw [List.filter_cons_of_pos hp]
      constructor
      · show (if x.1 = o then x.2 else getL (r.filter p) o) = if x.1 = o then x.2 else getL r o
        rw [h1]
      · show (decide (x.1 = o) || getY (r.filter p) o) = (decide (x.1 = o) || getY r o)
        rw [h2]
    · have hx : x.1 ≠ o := fun e => hp (h x (List.mem_cons_self ..) e)
      rw [List.filter_cons_of_neg hp]
      constructor
      · show getL (r.filter p) o = if x.1 = o then x.2 else getL r o
        rw [if_neg hx, h1]
      · show getY (r.filter p) o = (decide (x.1 = o) || getY r o)
        rw [h2, decide_eq_false hx, Bool.false_or]
set_option maxRecDepth 100000 in
theorem get_no (o : Int) : ∀ (l : List Fl), (∀ x ∈ l, x.1 ≠ o) → getL l o = [] ∧ getY l o = false
  | [], _ => ⟨rfl, rfl⟩
  | x :: r, h => by
    obtain ⟨h1, h2⟩ := get_no o r (fun y hy => h y (List.mem_cons_of_mem _ hy))
    have hx := h x (List.mem_cons_self ..)
    constructor
    · show (if x.1 = o then x.2 else getL r o) = []
      rw [if_neg hx, h1]
    · show (decide (x.1 = o) || getY r o) = false
      rw [h2, decide_eq_false hx]
      rfl
set_option maxRecDepth 100000 in
theorem get_set (l : List Fl) (no : Int) (v : List UInt8) : getL (setL l no v) no = v ∧ getY (setL l no v) no = true := by
  unfold setL
  have h0 := get_no no (l.filter fun x => decide (x.1 < no)) (fun x hx => by have := (List.mem_filter.1 hx).2; simp at this; omega)
  rw [List.append_assoc, (get_append _ _ no).1, (get_append _ _ no).2, h0.2, if_neg (by decide)]
  constructor
  · show (if no = no then v else _) = v
    rw [if_pos rfl]
  · show (false || (decide (no = no) || _)) = true
    simp
set_option maxRecDepth 100000 in
theorem get_drop (l : List Fl) (no : Int) : getL (dropF l no) no = [] ∧ getY (dropF l no) no = false :=
  get_no no _ (fun x hx => by have := (List.mem_filter.1 hx).2; simpa using this)
set_option maxRecDepth 100000 in
theorem get_set_other (l : List Fl) (no o : Int) (v : List UInt8) (h : o ≠ no) : getL (setL l no v) o = getL l o ∧ getY (setL l no v) o = getY l o := by
  unfold setL
  have hm : getY ([(no, v)] : List Fl) o = false := by simp [getY]; omega
  have hb : ∀ C : List Fl, getL ([(no, v)] ++ C) o = getL C o ∧ getY ([(no, v)] ++ C) o = getY C o := fun C => by
    rw [(get_append _ _ o).1, (get_append _ _ o).2, hm]
    exact ⟨by rw [if_neg Bool.false_ne_true], Bool.false_or _⟩
  rw [List.append_assoc, (get_append _ _ o).1, (get_append _ _ o).2, (hb _).1, (hb _).2]
  rcases Int.lt_trichotomy o no with h1 | h1 | h1
  · have hc := get_no o (l.filter fun x => decide (no < x.1)) (fun x hx => by have := (List.mem_filter.1 hx).2; simp at this; omega)
    have ha := get_filter (fun x => decide (x.1 < no)) o l (fun x _ e => by simp; omega)
    rw [hc.1, hc.2, ha.1, ha.2, Bool.or_false]
    refine ⟨?_, rfl⟩
    split
    · rfl
    · rename_i hn
      have : ∀ x ∈ l, x.1 ≠ o := fun x hx e => hn (by unfold getY; rw [List.any_eq_true]; exact ⟨x, hx, by simpa using e⟩)
      exact (get_no o l this).1.symm
  · exact absurd h1 h
  · have hc := get_no o (l.filter fun x => decide (x.1 < no)) (fun x hx => by have := (List.mem_filter.1 hx).2; simp at this; omega)
    have ha := get_filter (fun x => decide (no < x.1)) o l (fun x _ e => by simp; omega)
    rw [hc.2, if_neg Bool.false_ne_true, ha.1, ha.2, Bool.false_or]
    exact ⟨rfl, rfl⟩
set_option maxRecDepth 100000 in
theorem get_drop_other (l : List Fl) (no o : Int) (h : o ≠ no) : getL (dropF l no) o = getL l o ∧ getY (dropF l no) o = getY l o :=
  get_filter _ o l (fun x _ e => by simp; omega)
end Go.Proofs.YtpfjecjfooefoaaDoor
/- Package iso: find (slices.BinarySearchFunc), around. -/

namespace Go.Proofs.YtpfjecjfooefoaaDoor
open Go.RowKit

/-- i is the place of the number no in the rows l, or where it would stand; b tells whether it is there -/
structure FindP (l : List Fl) (no : Int) (i : Nat) (b : Bool) : Prop where
  le : i ≤ l.length
  lo : ∀ j (h : j < l.length), j < i → l[j].1 < no
  hi : ∀ j (h : j < l.length), i ≤ j → no ≤ l[j].1
  at_ : b = true ↔ ∃ h : i < l.length, l[i].1 = no
def AnsFind (e : Ending) (l : List Fl) (no : Int) : Prop := ∃ (i : Nat) (b : Bool), e = .returned (.tuple #[.int .i64 (i : Int), .bool b]) ∧ FindP l no i b

set_option maxRecDepth 100000 in
set_option maxHeartbeats 4000000 in
theorem bs_any (g : Nat) (A : Option Addr) (l : List Fl) (c : Nat) (no : Int) (W : World) (hl : l.length ≤ 1000) (hu : UpF l) (hr : RdF W W.heap.size A l) (hg : W.heap[g]? = some (.cells #[.slice A l.length c, noV] 68 (0, 0))) :
    Calls Tryd.prog 95 #[.slice A l.length c, .int .i64 no, .func (.func 96) #[] #[.pointer (some ⟨g, 0, none⟩)]] W fun e W' => AnsFind e l no ∧ Below W.heap.size W W' := by
  have CC := Lib.hid (fun z B m d w (h : Below W.heap.size W w) => findc_any z no B m d g A l.length c w (oldG hg h (Nat.le_refl _)))
  obtain ⟨n, hn⟩ : ∃ n, n = l.length := ⟨_, rfl⟩
  have HN := Lib.hid hn
  rw [← hn] at hl ⊢
  have RA := Lib.hid (fun w (h : Below W.heap.size W w) => hr.go h)
  have HU := Lib.hid (List.pairwise_iff_getElem.1 hu)
  clear hn hg hr hu
  go_enter Tryd.func95, Tryd.ntmps95
  go_wp2
  go_loopw [9, 10] (fun a b wr => ∃ i j : Nat, i ≤ j ∧ j ≤ n ∧ a = .int .i64 i ∧ b = .int .i64 j ∧ Hid (∀ q (h : q < l.length), q < i → l[q].1 < no) ∧ Hid (∀ q (h : q < l.length), j ≤ q → no ≤ l[q].1) ∧ Hid (Below W.heap.size W wr)) (fun a b _ => (intOf b).toNat - (intOf a).toNat)
  case atStart => exact ⟨0, n, Nat.zero_le _, Nat.le_refl _, rfl, rfl, Lib.hid (fun q h h1 => absurd h1 (by omega)), Lib.hid (fun q h h1 => absurd h (by have := HN.out; omega)), Lib.hid (Below.refl _ _)⟩
  case round =>
    obtain ⟨i, j, hij, hjn, rfl, rfl, HL, HH, HBV⟩ := hrel
    by_cases hlt : i < j
    · obtain ⟨m, hm⟩ : ∃ m, m = (i + j) / 2 := ⟨_, rfl⟩
      have hmi : i ≤ m := by omega
      have hmj : m < j := by omega
      have hk2 : m < l.length := by rw [← HN.out]; omega
      obtain ⟨b1, o1, A1, c1, rfl, hb1, x1, y1, -, -, -⟩ := (RA.out _ HBV.out).at_ hk2
      have hji : (i : Int) < (j : Int) := by omega
      have hs : ((i : Int) + (j : Int)) / 2 = (m : Int) := by omega
      have HM := Lib.hid hm
      clear hm
      obtain ⟨xk, hxk⟩ : ∃ x, x = l[m].1 := ⟨_, rfl⟩
      have HLN := Lib.hid (show xk < no → ∀ q (h : q < l.length), q < m + 1 → l[q].1 < no from fun h q hq h1 => by
        by_cases e : q = m
        · subst e; rw [← hxk]; exact h
        · have h2 := HU.out q m hq hk2 (by omega)
          rw [← hxk] at h2
          omega)
      have HHN := Lib.hid (show ¬ xk < no → ∀ q (h : q < l.length), m ≤ q → no ≤ l[q].1 from fun h q hq h1 => by
        by_cases e : q = m
        · subst e; rw [← hxk]; omega
        · have h2 := HU.out m q hk2 hq (by omega)
          rw [← hxk] at h2
          omega)
      rw [← hxk] at x1
      generalize l[m].2.length = z1 at *
      clear hxk hk2 hb1
      by_cases hc : xk < no
      · have HLQ := Lib.hid (HLN.out hc)
        have CK := Lib.hid (fun w (h : Below W.heap.size W w) => (show Calls Tryd.prog 96 #[.agg #[.int .i64 xk, .slice A1 z1 c1], .int .i64 no, .pointer (some ⟨g, 0, none⟩)] w fun e W' => e = .returned (.int .i64 (-1)) ∧ Below w.heap.size w W' from by
          have h1 := CC.out xk A1 z1 c1 w h
          have e1 : cmpF xk no = -1 := by unfold cmpF; rw [if_pos hc]
          rw [e1] at h1
          exact h1))
        clear HLN HHN hc
        go_wp2_with fail
        refine (CK.out _ HBV.out).mono ?_
        rintro e w2 ⟨rfl, hb⟩
        have HB2 := Lib.hid (belG HBV.out hb HBV.out.size)
        clear hb CK x1 y1
        go_wp2
        go_roundw
        case rel => exact ⟨m + 1, j, by omega, hjn, by go_num, rfl, HLQ, HH, HB2⟩
        case measure => simp [intOf]; omega
      · have HHQ := Lib.hid (HHN.out hc)
        have HCP := Lib.hid (show 0 ≤ cmpF xk no by unfold cmpF; rw [if_neg hc]; split <;> omega)
        have CK := Lib.hid (fun w (h : Below W.heap.size W w) => CC.out xk A1 z1 c1 w h)
        generalize cmpF xk no = K at *
        have hK := HCP.out
        have hK1 : ¬ K < 0 := by omega
        clear HLN HHN hc
        go_wp2_with fail
        refine (CK.out _ HBV.out).mono ?_
        rintro e w2 ⟨rfl, hb⟩
        have HB2 := Lib.hid (belG HBV.out hb HBV.out.size)
        clear hb CK x1 y1
        go_wp2
        go_roundw
        case rel => exact ⟨i, m, hmi, by omega, rfl, by go_num, HL, HHQ, HB2⟩
        case measure => simp [intOf]; omega
    · obtain rfl : i = j := by omega
      by_cases hin : i < n
      · have hk2 : i < l.length := by rw [← HN.out]; exact hin
        obtain ⟨b1, o1, A1, c1, rfl, hb1, x1, y1, -, -, -⟩ := (RA.out _ HBV.out).at_ hk2
        obtain ⟨xk, hxk⟩ : ∃ x, x = l[i].1 := ⟨_, rfl⟩
        have HFP := Lib.hid (show ∀ b, (b = true ↔ xk = no) → FindP l no i b from fun b hb => ⟨by omega, HL.out, HH.out, hb.trans ⟨fun h => ⟨hk2, by rw [← hxk]; exact h⟩, fun ⟨_, h⟩ => by rw [hxk]; exact h⟩⟩)
        have HGE := Lib.hid (show no ≤ xk by rw [hxk]; exact HH.out i hk2 (Nat.le_refl _))
        rw [← hxk] at x1
        generalize l[i].2.length = z1 at *
        have hni : ¬ (i : Int) < (i : Int) := by omega
        have hii : (i : Int) < (n : Int) := by omega
        have d1 : decide ((i : Int) < (n : Int)) = true := decide_eq_true hii
        have d2 : decide (i < n) = true := decide_eq_true hin
        clear hxk hk2 hb1
        by_cases hc : xk = no
        · have HF := Lib.hid (HFP.out true ⟨fun _ => hc, fun _ => rfl⟩)
          have CK := Lib.hid (fun w (h : Below W.heap.size W w) => (show Calls Tryd.prog 96 #[.agg #[.int .i64 xk, .slice A1 z1 c1], .int .i64 no, .pointer (some ⟨g, 0, none⟩)] w fun e W' => e = .returned (.int .i64 0) ∧ Below w.heap.size w W' from by
            have h1 := CC.out xk A1 z1 c1 w h
            have e1 : cmpF xk no = 0 := by unfold cmpF; rw [if_neg (by omega), if_neg (by omega)]
            rw [e1] at h1
            exact h1))
          clear HFP hc HGE
          go_wp2_with fail
          refine (CK.out _ HBV.out).mono ?_
          rintro e w2 ⟨rfl, hb⟩
          have HB2 := Lib.hid (belG HBV.out hb HBV.out.size)
          clear hb CK x1 y1
          go_wp2
          go_ret2
          exact ⟨⟨i, true, rfl, HF.out⟩, HB2.out⟩
        · have HF := Lib.hid (HFP.out false ⟨fun h => absurd h (by decide), fun h => absurd h hc⟩)
          have CK := Lib.hid (fun w (h : Below W.heap.size W w) => (show Calls Tryd.prog 96 #[.agg #[.int .i64 xk, .slice A1 z1 c1], .int .i64 no, .pointer (some ⟨g, 0, none⟩)] w fun e W' => e = .returned (.int .i64 1) ∧ Below w.heap.size w W' from by
            have h1 := CC.out xk A1 z1 c1 w h
            have hge := HGE.out
            have e1 : cmpF xk no = 1 := by unfold cmpF; rw [if_neg (by omega), if_pos (by omega)]
            rw [e1] at h1
            exact h1))
          clear HFP hc HGE
          go_wp2_with fail
          refine (CK.out _ HBV.out).mono ?_
          rintro e w2 ⟨rfl, hb⟩
          have HB2 := Lib.hid (belG HBV.out hb HBV.out.size)
          clear hb CK x1 y1
          go_wp2
          go_ret2
          exact ⟨⟨i, false, rfl, HF.out⟩, HB2.out⟩
      · have HF := Lib.hid (show FindP l no i false from ⟨by have := HN.out; omega, HL.out, HH.out, ⟨fun h => absurd h (by decide), fun ⟨h, _⟩ => absurd h (by have := HN.out; omega)⟩⟩)
        have hni : ¬ (i : Int) < (i : Int) := by omega
        have hii : ¬ (i : Int) < (n : Int) := by omega
        have d1 : decide ((i : Int) < (n : Int)) = false := decide_eq_false hii
        have d2 : decide (i < n) = false := decide_eq_false hin
        go_wp2
        go_ret2
        exact ⟨⟨i, false, rfl, HF.out⟩, HBV.out⟩
set_option maxRecDepth 100000 in
theorem find_any (A : Option Addr) (l : List Fl) (c : Nat) (no : Int) (W : World) (hl : l.length ≤ 1000) (hu : UpF l) (hr : RdF W W.heap.size A l) :
    Calls Tryd.prog 65 #[rowsV A l.length c, .int .i64 no] W fun e W' => AnsFind e l no ∧ Below W.heap.size W W' := by
  have hb := (Below.refl W.heap.size W).alloc (Nat.le_refl _) (.cells #[.slice A l.length c, noV] 68)
  have hg := heap_alloc_new W (.cells #[.slice A l.length c, noV] 68)
  have CB := Lib.hid (bs_any W.heap.size A l c no _ hl hu (hr.go hb) hg)
  have HB := Lib.hid hb
  obtain ⟨e0, e1⟩ := cG2 hg
  clear hb hg hr hu
  generalize l.length = n at *
  go_enter Tryd.func65, Tryd.ntmps65
  go_wp2_with fail
  refine CB.out.mono ?_
  rintro e w2 ⟨⟨i, b, rfl, hf⟩, hb⟩
  have HF := Lib.hid hf
  have HB2 := Lib.hid (belG HB.out hb HB.out.size)
  clear hb hf CB
  go_wp2
  go_ret2
  exact ⟨⟨i, b, rfl, HF.out⟩, HB2.out⟩

def ltF (l : List Fl) (no : Int) : List Fl := l.filter fun x => decide (x.1 < no)
def gtF (l : List Fl) (no : Int) : List Fl := l.filter fun x => decide (no < x.1)
set_option maxRecDepth 100000 in
theorem filter_all {p : Fl → Bool} {l : List Fl} (h : ∀ x ∈ l, p x = true) : l.filter p = l := List.filter_eq_self.2 h
set_option maxRecDepth 100000 in
theorem filter_no {p : Fl → Bool} {l : List Fl} (h : ∀ x ∈ l, p x = false) : l.filter p = [] := List.filter_eq_nil_iff.2 (fun x hx => by rw [h x hx]; decide)
set_option maxRecDepth 100000 in
theorem mem_take {l : List Fl} {i : Nat} {x : Fl} (h : x ∈ l.take i) : ∃ j, ∃ hj : j < l.length, j < i ∧ l[j] = x := by
  obtain ⟨j, hj, rfl⟩ := List.getElem_of_mem h
  rw [List.length_take] at hj
  exact ⟨j, by omega, by omega, by rw [List.getElem_take]⟩
set_option maxRecDepth 100000 in
theorem mem_drop {l : List Fl} {i : Nat} {x : Fl} (h : x ∈ l.drop i) : ∃ j, ∃ hj : j < l.length, i ≤ j ∧ l[j] = x := by
  obtain ⟨j, hj, rfl⟩ := List.getElem_of_mem h
  rw [List.length_drop] at hj
  exact ⟨i + j, by omega, by omega, by rw [List.getElem_drop]⟩
set_option maxRecDepth 100000 in
theorem FindP.take {l : List Fl} {no : Int} {i : Nat} {b : Bool} (h : FindP l no i b) : l.take i = ltF l no := by
  unfold ltF
  have e : l.filter (fun x => decide (x.1 < no)) = (l.take i ++ l.drop i).filter (fun x => decide (x.1 < no)) := by rw [List.take_append_drop]
  rw [e, List.filter_append, filter_all, filter_no, List.append_nil]
  · intro x hx
    obtain ⟨j, hj, h1, rfl⟩ := mem_drop hx
    have := h.hi j hj h1
    exact decide_eq_false (by omega)
  · intro x hx
    obtain ⟨j, hj, h1, rfl⟩ := mem_take hx
    exact decide_eq_true (h.lo j hj h1)
set_option maxRecDepth 100000 in
theorem FindP.drop_no {l : List Fl} {no : Int} {i : Nat} (h : FindP l no i false) (hu : UpF l) : l.drop i = gtF l no := by
  unfold gtF
  have e : l.filter (fun x => decide (no < x.1)) = (l.take i ++ l.drop i).filter (fun x => decide (no < x.1)) := by rw [List.take_append_drop]
  rw [e, List.filter_append, filter_no, filter_all, List.nil_append]
  · intro x hx
    obtain ⟨j, hj, h1, rfl⟩ := mem_drop hx
    have h2 := h.hi j hj h1
    have hil : i < l.length := by omega
    have h3 : l[i].1 ≠ no := fun e => by have := h.at_.2 ⟨hil, e⟩; exact absurd this (by decide)
    have h4 := h.hi i hil (Nat.le_refl _)
    by_cases e : j = i
    · subst e; exact decide_eq_true (by omega)
    · have := List.pairwise_iff_getElem.1 hu i j hil hj (by omega)
      exact decide_eq_true (by omega)
  · intro x hx
    obtain ⟨j, hj, h1, rfl⟩ := mem_take hx
    have := h.lo j hj h1
    exact decide_eq_false (by omega)
set_option maxRecDepth 100000 in
theorem FindP.drop_yes {l : List Fl} {no : Int} {i : Nat} (h : FindP l no i true) (hu : UpF l) : l.drop (i + 1) = gtF l no := by
  unfold gtF
  obtain ⟨hil, hei⟩ := h.at_.1 rfl
  have e : l.filter (fun x => decide (no < x.1)) = (l.take (i + 1) ++ l.drop (i + 1)).filter (fun x => decide (no < x.1)) := by rw [List.take_append_drop]
  rw [e, List.filter_append, filter_no, filter_all, List.nil_append]
  · intro x hx
    obtain ⟨j, hj, h1, rfl⟩ := mem_drop hx
    have := List.pairwise_iff_getElem.1 hu i j hil hj (by omega)
    exact decide_eq_true (by omega)
  · intro x hx
    obtain ⟨j, hj, h1, rfl⟩ := mem_take hx
    by_cases e : j = i
    · subst e; exact decide_eq_false (by omega)
    · have := h.lo j hj (by omega)
      exact decide_eq_false (by omega)
/-- an answer: the rows ahead of a number, and those behind it; they lie where the arguments do -/
def AnsAr (W' : World) (B : Nat) (e : Ending) (l m : List Fl) : Prop := ∃ A1 c1 A2 c2, e = .returned (.tuple #[.slice A1 l.length c1, .slice A2 m.length c2]) ∧ RdF W' B A1 l ∧ RdF W' B A2 m

set_option maxRecDepth 100000 in
set_option maxHeartbeats 4000000 in
theorem around_any (A : Option Addr) (l : List Fl) (c : Nat) (no : Int) (W : World) (hl : l.length ≤ 1000) (hc : l.length ≤ c) (hcm : c ≤ 9223372036854775807) (hu : UpF l) (hr : RdF W W.heap.size A l) :
    Calls Tryd.prog 93 #[rowsV A l.length c, .int .i64 no] W fun e W' => AnsAr W' W.heap.size e (ltF l no) (gtF l no) ∧ Below W.heap.size W W' := by
  have hb := (Below.refl W.heap.size W).alloc (Nat.le_refl _) (.cells #[.slice A l.length c, noV] 68)
  have hg := heap_alloc_new W (.cells #[.slice A l.length c, noV] 68)
  obtain ⟨V, hV⟩ : ∃ V, V = W.alloc (.cells #[.slice A l.length c, noV] 68) := ⟨_, rfl⟩
  rw [← hV] at hb hg
  have CB := Lib.hid (find_any A l c no V hl hu (hr.go hb))
  have RA := Lib.hid (fun w (h : Below W.heap.size W w) => hr.below h (Nat.le_refl _))
  have HB := Lib.hid hb
  have HG := Lib.hid hg
  have HV := Lib.hid hV
  have HU := Lib.hid hu
  obtain ⟨e0, e1⟩ := cG2 hg
  rw [hV] at e0 e1
  obtain ⟨n, hn⟩ : ∃ n, n = l.length := ⟨_, rfl⟩
  have HN := Lib.hid hn
  rw [← hn] at CB HG HV hl hc e0 e1 ⊢
  clear hb hg hr hu hV hn
  go_enter Tryd.func93, Tryd.ntmps93
  go_wp2_with (with_reducible refine at_listG ?_; refine loadR _ (.tmp 2) W.heap.size _ _ (by exact heap_alloc_new W _) rfl rfl rfl ?_)
  rw [← HV.out]
  refine CB.out.mono ?_
  rintro e w2 ⟨⟨i, b, rfl, hf⟩, hb⟩
  have hin : i ≤ n := by have := hf.le; have := HN.out; omega
  have HT := Lib.hid hf.take
  have HT1 := Lib.hid (show (ltF l no).length = i by rw [← HT.out, List.length_take]; have := HN.out; omega)
  have HB2 := Lib.hid (belG HB.out hb HB.out.size)
  obtain ⟨f0, f1⟩ := cG2 (oldG HG.out hb (Nat.le_refl _))
  have hcl : l.length ≤ c := by rw [← HN.out]; exact hc
  have HCUT := Lib.hid (fun k w (h : Below W.heap.size W w) => RdF.cut (RA.out w h) k c hcl)
  have d1 : (0 : Int) ≤ (i : Int) := Int.natCast_nonneg _
  have d2 : (i : Int) ≤ (c : Int) := by omega
  have d3 : (n : Int) ≤ (c : Int) := by omega
  have d4 : (i : Int) ≤ (n : Int) := by omega
  cases b with
  | true =>
    obtain ⟨hil, -⟩ := hf.at_.1 rfl
    rw [← HN.out] at hil
    have HD := Lib.hid (hf.drop_yes HU.out)
    have HD1 := Lib.hid (show (gtF l no).length = n - (i + 1) by rw [← HD.out, List.length_drop]; have := HN.out; omega)
    have d5 : (i : Int) + 1 ≤ (n : Int) := by omega
    have d6 : (i : Int) + 1 ≤ (c : Int) := by omega
    have d7 : (0 : Int) ≤ (i : Int) + 1 := by omega
    have d8 : IntKind.i64.wrap ((i : Int) + 1) = (i : Int) + 1 := IntWalk.i64_in _ (by omega)
    have d9 : ((i : Int) + 1).toNat = i + 1 := by omega
    clear hb hf CB HB HU hcl e0 e1 HV
    by_cases hcc : c = i + 1
    · have HC2 := Lib.hid (fun w (h : Below W.heap.size W w) => by have h1 := HCUT.out (i + 1) w h; rw [if_pos hcc] at h1; exact h1)
      subst hcc
      go_wp2
      go_quiet (fail)
      go_wp2
      go_ret2
      refine ⟨⟨A, i + 1, A, 0, ?_, ?_, ?_⟩, below_drewN HB2.out _⟩
      · rw [HT1.out, HD1.out, show n - (i + 1) = 0 by omega]
        rfl
      · rw [← HT.out]; exact RdF.takeF (RA.out _ (below_drewN HB2.out _)) i
      · rw [← HD.out]; exact HC2.out _ (below_drewN HB2.out _)
    · have HC2 := Lib.hid (fun w (h : Below W.heap.size W w) => by have h1 := HCUT.out (i + 1) w h; rw [if_neg hcc] at h1; exact h1)
      go_wp2
      go_quiet (fail)
      go_wp2
      go_ret2
      refine ⟨⟨A, c, A.map (fun x => x.add ((i + 1) * 2)), c - (i + 1), ?_, ?_, ?_⟩, below_drewN HB2.out _⟩
      · rw [HT1.out, HD1.out]
        rfl
      · rw [← HT.out]; exact RdF.takeF (RA.out _ (below_drewN HB2.out _)) i
      · rw [← HD.out]; exact HC2.out _ (below_drewN HB2.out _)
  | false =>
    have HD := Lib.hid (hf.drop_no HU.out)
    have HD1 := Lib.hid (show (gtF l no).length = n - i by rw [← HD.out, List.length_drop]; have := HN.out; omega)
    clear hb hf CB HB HU hcl e0 e1 HV
    by_cases hcc : c = i
    · have HC2 := Lib.hid (fun w (h : Below W.heap.size W w) => by have h1 := HCUT.out i w h; rw [if_pos hcc] at h1; exact h1)
      subst hcc
      go_wp2
      go_quiet (fail)
      go_wp2
      go_ret2
      refine ⟨⟨A, c, A, 0, ?_, ?_, ?_⟩, below_drewN HB2.out _⟩
      · rw [HT1.out, HD1.out, show n - c = 0 by omega]
        rfl
      · rw [← HT.out]; exact RdF.takeF (RA.out _ (below_drewN HB2.out _)) c
      · rw [← HD.out]; exact HC2.out _ (below_drewN HB2.out _)
    · have HC2 := Lib.hid (fun w (h : Below W.heap.size W w) => by have h1 := HCUT.out i w h; rw [if_neg hcc] at h1; exact h1)
      go_wp2
      go_quiet (fail)
      go_wp2
      go_ret2
      refine ⟨⟨A, c, A.map (fun x => x.add (i * 2)), c - i, ?_, ?_, ?_⟩, below_drewN HB2.out _⟩
      · rw [HT1.out, HD1.out]
        rfl
      · rw [← HT.out]; exact RdF.takeF (RA.out _ (below_drewN HB2.out _)) i
      · rw [← HD.out]; exact HC2.out _ (below_drewN HB2.out _)
end Go.Proofs.YtpfjecjfooefoaaDoor
