
/- DigReads' walk -/
import Derived.Test.YtfppcmhhbheaiaaDoorJ08
import Derived.Deep.DeepCutAuto
namespace Go.Proofs.YtfppcmhhbheaiaaDoor
open Go.RowKit

set_option maxRecDepth 100000 in
theorem fig_nib (v : Nat) (h : v < 16) (hf : isFig (sgn v) = true) : v < 10 := by
  have e := sgn_nat v h
  have := (isFig_iff _).1 hf
  by_cases h10 : v < 10
  · exact h10
  · rw [if_neg h10] at e; omega
set_option maxRecDepth 100000 in
theorem pack_of_hx (part : List UInt8) (k : Nat) (hk : (k + 1) / 2 = part.length) (h : tbOk part k = true) :
    packL gFig ((hx part).drop (k % 2)) = part ∧ allFig ((hx part).drop (k % 2)) = true ∧ ((hx part).drop (k % 2)).length = k := by
  unfold tbOk at h
  rw [Bool.and_eq_true] at h
  obtain ⟨hf, h0⟩ := h
  have hall : packL gFig (hx part) = part := by
    apply packL_hx gFig gFig_w
    intro i hi
    apply gFig_sgn
    apply fig_nib _ (nib_lt part i)
    unfold allFig at hf
    rw [List.all_eq_true] at hf
    have := hf _ (List.getElem_mem (show i < (hx part).length by rw [hx_length]; exact hi))
    rwa [hx_get] at this
  have hlen := hx_length part
  rcases Nat.mod_two_eq_zero_or_one k with e | e
  · rw [e, List.drop_zero]
    exact ⟨hall, hf, by omega⟩
  · rw [e] at h0 ⊢
    cases hh : hx part with
    | nil => rw [hh] at hlen; simp at hlen; omega
    | cons a t =>
      rw [hh] at h0 hall hf hlen
      simp at h0
      subst h0
      simp only [List.length_cons] at hlen
      have ho : t.length % 2 = 1 := by omega
      simp only [List.drop_succ_cons, List.drop_zero]
      refine ⟨by rw [← packL_odd t ho]; exact hall, ?_, by omega⟩
      unfold allFig at hf ⊢
      rw [List.all_cons, Bool.and_eq_true] at hf
      exact hf.2
set_option maxRecDepth 100000 in
theorem tbS_reads (l : List UInt8) (i n : Int) (h : (tbS l i n).2.2 = 0) :
    0 ≤ i ∧ i ≤ (tbS l i n).2.1 ∧ (tbS l i n).2.1 ≤ l.length ∧ ((tbS l i n).1.length : Int) = n ∧ bcdE (tbS l i n).1 = 0 ∧ bcdL (tbS l i n).1 = (l.drop i.toNat).take ((tbS l i n).2.1 - i).toNat := by
  unfold tbS at h ⊢
  by_cases h1 : n < 0 ∨ 999 < n ∨ i < 0 ∨ (l.length : Int) < i
  · rw [if_pos h1] at h; exact absurd h (by decide)
  · rw [if_neg h1] at h ⊢
    by_cases h2 : l.length < i.toNat + (n.toNat + 1) / 2
    · rw [if_pos h2] at h; exact absurd h (by decide)
    · rw [if_neg h2] at h ⊢
      have hlen : ((l.drop i.toNat).take ((n.toNat + 1) / 2)).length = (n.toNat + 1) / 2 := by rw [List.length_take, List.length_drop]; omega
      by_cases h3 : tbOk ((l.drop i.toNat).take ((n.toNat + 1) / 2)) n.toNat = true
      · rw [if_pos h3]
        obtain ⟨a, b, c⟩ := pack_of_hx _ _ hlen.symm h3
        simp only
        refine ⟨by omega, by omega, by omega, by rw [c]; omega, by unfold bcdE; rw [if_pos b], ?_⟩
        unfold bcdL
        rw [if_pos b, a]
        congr 1
        omega
      · rw [if_neg h3] at h; exact absurd h (by decide)
set_option maxRecDepth 100000 in
theorem tgS_reads (l : List UInt8) (i n : Int) (h : (tgS l i n).2.2 = 0) :
    0 ≤ i ∧ i ≤ (tgS l i n).2.1 ∧ (tgS l i n).2.1 ≤ l.length ∧ (tgS l i n).1 ≤ 9223372036854775807 ∧ bigE (tgS l i n).1 n = 0 ∧ bigL (tgS l i n).1 n = (l.drop i.toNat).take ((tgS l i n).2.1 - i).toNat := by
  unfold tgS at h ⊢
  by_cases h1 : n < 1 ∨ 8 < n ∨ i < 0 ∨ (l.length : Int) < i
  · rw [if_pos h1] at h; exact absurd h (by decide)
  · rw [if_neg h1] at h ⊢
    by_cases h2 : l.length < i.toNat + n.toNat
    · rw [if_pos h2] at h; exact absurd h (by decide)
    · rw [if_neg h2] at h ⊢
      have hlen : ((l.drop i.toNat).take n.toNat).length = n.toNat := by rw [List.length_take, List.length_drop]; omega
      by_cases h3 : numL ((l.drop i.toNat).take n.toNat) ≤ 9223372036854775807
      · rw [if_pos h3]
        have hlt := numL_lt ((l.drop i.toNat).take n.toNat)
        rw [hlen] at hlt
        have hok : bigOk (numL ((l.drop i.toNat).take n.toNat) : Int) n = true := by
          rw [bigOk_iff]
          exact ⟨by omega, by omega, by omega, by simpa using hlt⟩
        have hd := dgL_num ((l.drop i.toNat).take n.toNat)
        rw [hlen] at hd
        simp only
        refine ⟨by omega, by omega, by omega, by omega, by unfold bigE; rw [if_pos hok], ?_⟩
        unfold bigL
        rw [if_pos hok, Int.toNat_natCast, hd]
        congr 1
        omega
      · rw [if_neg h3] at h; exact absurd h (by decide)
set_option maxRecDepth 100000 in
theorem valR_reads (l : List UInt8) (h : (valR l).2 = 0) : (valR l).1 ≤ 9223372036854775807 ∧ digE ((valR l).1 : Int) (l.length : Int) = 0 ∧ digL ((valR l).1 : Int) (l.length : Int) = l := by
  unfold valR at h ⊢
  by_cases h1 : 1 ≤ l.length ∧ l.length ≤ 18 ∧ allFig l = true
  · rw [if_pos h1]
    have hlt := val_lt l h1.2.2
    have h18 : 10 ^ l.length ≤ 10 ^ 18 := Nat.pow_le_pow_right (by omega) h1.2.1
    have hok : digOk (val l : Int) (l.length : Int) = true := by
      rw [digOk_iff]
      exact ⟨by omega, by omega, by omega, by simpa using hlt⟩
    refine ⟨by simp only; omega, by unfold digE; rw [if_pos hok], ?_⟩
    unfold digL
    rw [if_pos hok, Int.toNat_natCast, Int.toNat_natCast, dgL_val l h1.2.2]
  · rw [if_neg h1] at h; exact absurd h (by decide)
set_option maxRecDepth 100000 in
theorem unhex_reads (l : List UInt8) : (unhexE l = 0 ∧ hx (unhexL l) = l ∧ (unhexL l).length ≤ l.length) ∨ (unhexE l = 2 ∧ unhexL l = []) := by
  unfold unhexE unhexL
  by_cases h : unhexOk l = true
  · rw [if_pos h, if_pos h]
    unfold unhexOk at h
    rw [Bool.and_eq_true, decide_eq_true_eq] at h
    refine .inl ⟨rfl, ?_, by rw [packL_length]; omega⟩
    rw [hx_packL gHalf gHalf_w gHalf_u l h.2, h.1]
    rfl
  · rw [if_neg h, if_neg h]
    exact .inr ⟨rfl, rfl⟩

set_option maxRecDepth 100000 in
theorem big_of (m n : Int) (p : List UInt8) (hm : m ≤ 9223372036854775807) (hL : bigL m n = p) (hE : bigE m n = 0) (W : World) :
    Calls Tryd.prog 24 #[.int .i64 m, .int .i64 n] W fun e W' => Ans W' e p p.length (.int .i64 0) ∧ Below W.heap.size W W' := by
  have h := big_all m n W hm
  rw [hL, hE] at h
  exact h
set_option maxRecDepth 100000 in
theorem same_n (A B : Option Addr) (la lb : List UInt8) (n m ca cb BA BB : Nat) (w : World) (hn : n = la.length) (hm : m = lb.length) (ha : Rd w BA A la) (hb : Rd w BB B lb) :
    Calls Tryd.prog 14 #[.slice A n ca, .slice B m cb] w fun e w' => e = .returned (.bool (decide (la = lb))) ∧ w = w' := by
  subst hn hm
  exact same_any A B la lb ca cb BA BB w ha hb

set_option maxRecDepth 100000 in
theorem eq_or (e : Int) : e = 0 ∨ ((e == 0) = false ∧ (e != 0) = true) := by
  by_cases h : e = 0
  · exact .inl h
  · right; simp [h]

end Go.Proofs.YtfppcmhhbheaiaaDoor
