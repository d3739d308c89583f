
/- Same, dig.Value -/
import Derived.Test.YtgnccfcdonoegaaJ02
namespace Go.Proofs.Ytgnccfcdonoegaa
open Go.RowKit

set_option maxRecDepth 100000 in
theorem same_any (A B : Option Addr) (la lb : List UInt8) (ca cb BA BB : Nat) (w : World) (ha : Rd w BA A la) (hb : Rd w BB B lb) :
    Calls Try.prog 20 #[.slice A la.length ca, .slice B lb.length cb] w fun e w' => e = .returned (.bool (decide (la = lb))) ∧ w = w' := by
  have h1 := run_str (P := Try.prog) ha ca _ _ _ Try.underlying22 Try.underlying5 Try.underlying9
  have h2 := run_str (P := Try.prog) hb cb _ _ _ Try.underlying22 Try.underlying5 Try.underlying9
  go_enter Try.func20, Try.ntmps20
  go_wp2
  go_ret
  refine ⟨?_, rfl⟩
  simp
  rw [Bool.eq_iff_iff]; simp

set_option maxRecDepth 100000 in
theorem same_sl (v1 v2 : Value) (la lb : List UInt8) (w : World) (ha : Sl w v1 la) (hb : Sl w v2 lb) :
    Calls Try.prog 20 #[v1, v2] w fun e w' => e = .returned (.bool (decide (la = lb))) ∧ w = w' := by
  obtain ⟨A, ca, rfl, _, _, h1⟩ := ha
  obtain ⟨B, cb, rfl, _, _, h2⟩ := hb
  exact same_any A B la lb ca cb _ _ w h1 h2

def isFig (c : UInt8) : Bool := decide (48 ≤ c.toNat) && decide (c.toNat ≤ 57)
def allFig (l : List UInt8) : Bool := l.all isFig
def val (l : List UInt8) : Nat := l.foldl (fun n c => 10 * n + (c.toNat - 48)) 0
set_option maxRecDepth 100000 in
theorem val_snoc (l : List UInt8) (c : UInt8) : val (l ++ [c]) = 10 * val l + (c.toNat - 48) := by simp [val]
set_option maxRecDepth 100000 in
theorem isFig_iff (c : UInt8) : isFig c = true ↔ 48 ≤ c.toNat ∧ c.toNat ≤ 57 := by simp [isFig]
set_option maxRecDepth 100000 in
theorem snoc_ind {α : Type} {motive : List α → Prop} (h0 : motive []) (h1 : ∀ l a, motive l → motive (l ++ [a])) (l : List α) : motive l := by
  have h : ∀ r : List α, motive r.reverse := by
    intro r
    induction r with
    | nil => exact h0
    | cons a r ih => rw [List.reverse_cons]; exact h1 _ _ ih
  have := h l.reverse
  rwa [List.reverse_reverse] at this
set_option maxRecDepth 100000 in
theorem val_lt (l : List UInt8) (h : allFig l = true) : val l < 10 ^ l.length := by
  induction l using snoc_ind with
  | h0 => simp [val]
  | h1 l a ih =>
    simp only [allFig, List.all_append, List.all_cons, List.all_nil, Bool.and_true, Bool.and_eq_true] at h
    have h2 := (isFig_iff a).1 h.2
    have h3 := ih h.1
    rw [val_snoc, List.length_append, List.length_cons, List.length_nil, Nat.pow_add]
    omega
def valR (l : List UInt8) : Nat × Nat := if 1 ≤ l.length ∧ l.length ≤ 18 ∧ allFig l = true then (val l, 0) else (0, 2)

set_option maxRecDepth 100000 in
theorem bytes_len (s : ByteArray) : s.data.toList.length = s.size := by rw [Array.length_toList]; rfl
set_option maxRecDepth 100000 in
theorem bytes_take (s : ByteArray) (k : Nat) (h : k < s.size) : s.data.toList.take (k + 1) = s.data.toList.take k ++ [s[k]] := by
  rw [List.take_succ_eq_append_getElem (by rw [bytes_len]; exact h)]; rfl

set_option maxRecDepth 100000 in
theorem all_snoc (l : List UInt8) (c : UInt8) : allFig (l ++ [c]) = (allFig l && isFig c) := by simp [allFig]
set_option maxRecDepth 100000 in
theorem all_not (l : List UInt8) (k : Nat) (h : k < l.length) (hn : isFig l[k] = false) : allFig l = false := by
  unfold allFig
  rw [List.all_eq_false]
  exact ⟨l[k], List.getElem_mem h, by simp [hn]⟩
set_option maxRecDepth 100000 in
theorem get_bytes (s : ByteArray) (k : Nat) (h : k < s.size) : s.data.toList[k]'(by rw [bytes_len]; exact h) = s[k] := rfl
set_option maxRecDepth 100000 in
/-- the rune that stands at a place where no figure stands is none -/
theorem rune_no (s : ByteArray) (k : Nat) (h : k < s.size) (hn : isFig s[k] = false) : ((Utf8.decode s k).1 : Int) < 48 ∨ 57 < ((Utf8.decode s k).1 : Int) := by
  by_cases ha : (s[k]'h).toNat < 128
  · rw [decode_ascii s k h ha]
    have : ¬ (48 ≤ s[k].toNat ∧ s[k].toNat ≤ 57) := by rw [← isFig_iff, hn]; simp
    simp only
    omega
  · have := (decode_high s k h (by omega)).1
    omega
set_option maxRecDepth 100000 in
theorem valR_ok (l : List UInt8) (h1 : 1 ≤ l.length) (h2 : l.length ≤ 18) (h : allFig l = true) : valR l = (val l, 0) := by rw [valR, if_pos ⟨h1, h2, h⟩]
set_option maxRecDepth 100000 in
theorem valR_no (l : List UInt8) (h : allFig l = false) : valR l = (0, 2) := by rw [valR, if_neg (by simp [h])]

end Go.Proofs.Ytgnccfcdonoegaa
/- The document's answers (ring): none, real, Empty, Few, sameGen, Same, New, Next, Find. -/

namespace Go.Proofs.Ytgnccfcdonoegaa
open Go.RowKit

set_option maxRecDepth 100000 in
theorem bxR1 (W : World) (x : Wg) (r : Rg) : ∃ V C, C = ringC x r ∧ V = W.alloc (.cells C 26) ∧ Below W.heap.size W V ∧ BxR V W.heap.size x r := by
  obtain ⟨V, h1, h2, h3⟩ := bx1 W 26 (ringC x r)
  exact ⟨V, _, rfl, h1, h2, h3⟩
set_option maxRecDepth 100000 in
theorem bxG1 (W : World) (x : Wk) (g : Gn) : ∃ V C, C = genC x g ∧ V = W.alloc (.cells C 24) ∧ Below W.heap.size W V ∧ Bx V W.heap.size 24 (genC x g) := by
  obtain ⟨V, h1, h2, h3⟩ := bx1 W 24 (genC x g)
  exact ⟨V, _, rfl, h1, h2, h3⟩
set_option maxRecDepth 100000 in
theorem none11_any (x : Wk) (g : Gn) (W : World) : Calls Try.prog 35 #[.agg (genC x g)] W fun e W' => e = .returned (.bool (decide (g = gn0))) ∧ Below W.heap.size W W' := by
  obtain ⟨V, C, hC, hV, hb, hg⟩ := bxG1 W x g
  rw [← hC]
  have x0 : V.cell? ⟨W.heap.size, 0, none⟩ = some (.int .i64 g.no) := hg.cell rfl
  have x1 : V.cell? ⟨W.heap.size, 1, none⟩ = some (.slice x.1 g.key.length x.2) := hg.cell rfl
  have HB := Lib.hid hb
  have HV := Lib.hid hV
  rw [hV] at x0 x1
  have e9 : decide (g = gn0) = (decide (g.no = 0) && decide (g.key.length = 0)) := by
    rw [Bool.eq_iff_iff]
    simp only [Bool.and_eq_true, decide_eq_true_eq]
    exact ⟨fun h => by rw [h]; exact ⟨rfl, rfl⟩, fun h => Gn.ext' h.1 (List.eq_nil_of_length_eq_zero h.2)⟩
  rw [e9]
  generalize g.no = n at *
  generalize g.key.length = k at *
  clear hg hb hV hC e9
  by_cases h0 : n = 0
  · subst h0
    by_cases h1 : k = 0
    · subst h1
      go_enter Try.func35, Try.ntmps35
      go_wp2
      go_ret
      exact ⟨by first | rfl | (simp; done), by rw [← HV.out]; exact HB.out⟩
    · have h2 : ((k : Int) == 0) = false := beq_eq_false_iff_ne.2 (by omega)
      go_enter Try.func35, Try.ntmps35
      go_wp2
      go_ret
      exact ⟨by first | rfl | (simp [h1]; done), by rw [← HV.out]; exact HB.out⟩
  · have h2 : (n == 0) = false := beq_eq_false_iff_ne.2 h0
    go_enter Try.func35, Try.ntmps35
    go_wp2
    go_ret
    exact ⟨by first | rfl | (simp [h0]; done), by rw [← HV.out]; exact HB.out⟩
set_option maxRecDepth 100000 in
theorem real11_any (x : Wk) (g : Gn) (W : World) : Calls Try.prog 34 #[.agg (genC x g)] W fun e W' => e = .returned (.bool (decide (RealG g))) ∧ Below W.heap.size W W' := by
  obtain ⟨V, C, hC, hV, hb, hg⟩ := bxG1 W x g
  rw [← hC]
  have x0 : V.cell? ⟨W.heap.size, 0, none⟩ = some (.int .i64 g.no) := hg.cell rfl
  have x1 : V.cell? ⟨W.heap.size, 1, none⟩ = some (.slice x.1 g.key.length x.2) := hg.cell rfl
  have HB := Lib.hid hb
  have HV := Lib.hid hV
  rw [hV] at x0 x1
  obtain ⟨D, hD⟩ : ∃ D, D = decide (RealG g) := ⟨_, rfl⟩
  rw [← hD]
  have HD := Lib.hid (show D = true ↔ (1 ≤ g.no ∧ g.no ≤ 2147483647 ∧ g.key.length = 32) from by rw [hD, decide_eq_true_iff]; exact Iff.rfl)
  generalize g.no = n at *
  generalize g.key.length = k at *
  clear hg hb hV hC hD
  have HF := Lib.hid (show ¬ (1 ≤ n ∧ n ≤ 2147483647 ∧ k = 32) → D = false from fun h => by
    cases D with
    | false => rfl
    | true => exact absurd (HD.out.1 rfl) h)
  by_cases h0 : 1 ≤ n
  · by_cases h1 : n ≤ 2147483647
    · by_cases h2 : k = 32
      · obtain rfl : D = true := HD.out.2 ⟨h0, h1, h2⟩
        subst h2
        go_enter Try.func34, Try.ntmps34
        go_wp2
        go_ret
        exact ⟨by first | rfl | (simp; done), by rw [← HV.out]; exact HB.out⟩
      · obtain rfl : D = false := HF.out (fun h => h2 h.2.2)
        have h3 : ((k : Int) == 32) = false := beq_eq_false_iff_ne.2 (by omega)
        go_enter Try.func34, Try.ntmps34
        go_wp2
        go_ret
        exact ⟨by first | rfl | (simp [h2]; done) | (simp; omega), by rw [← HV.out]; exact HB.out⟩
    · obtain rfl : D = false := HF.out (fun h => h1 h.2.1)
      go_enter Try.func34, Try.ntmps34
      go_wp2
      go_ret
      exact ⟨by first | rfl | (simp; done) | (simp; omega), by rw [← HV.out]; exact HB.out⟩
  · obtain rfl : D = false := HF.out (fun h => h0 h.1)
    go_enter Try.func34, Try.ntmps34
    go_wp2
    go_ret
    exact ⟨by first | rfl | (simp; done) | (simp; omega), by rw [← HV.out]; exact HB.out⟩
set_option maxRecDepth 100000 in
theorem rg0_iff {r : Rg} : r = rg0 ↔ (r.cur = gn0 ∧ r.old = gn0 ∧ r.pend = gn0 ∧ r.left = 0 ∧ r.top = 0) :=
  ⟨fun h => by rw [h]; exact ⟨rfl, rfl, rfl, rfl, rfl⟩, fun h => Rg.ext' h.1 h.2.1 h.2.2.1 h.2.2.2.1 h.2.2.2.2⟩
set_option maxRecDepth 100000 in
set_option maxHeartbeats 2000000 in
theorem empty11_any (x : Wg) (r : Rg) (W : World) : Calls Try.prog 31 #[.agg (ringC x r)] W fun e W' => e = .returned (.bool (decide (r = rg0))) ∧ Below W.heap.size W W' := by
  obtain ⟨V, C, hC, hV, hb, hg⟩ := bxR1 W x r
  have HB := Lib.hid hb
  have HV := Lib.hid hV
  have HG := Lib.hid hg
  have C1 := Lib.hid (fun w => none11_any x.cur r.cur w)
  have C2 := Lib.hid (fun w => none11_any x.old r.old w)
  have C3 := Lib.hid (fun w => none11_any x.pend r.pend w)
  rw [← hC]
  obtain ⟨D, hD⟩ : ∃ D, D = decide (r = rg0) := ⟨_, rfl⟩
  rw [← hD]
  have HD := Lib.hid (show D = (decide (r.cur = gn0) && decide (r.old = gn0) && decide (r.pend = gn0) && (r.left == 0) && (r.top == 0)) from by
    rw [hD, Bool.eq_iff_iff]
    simp only [Bool.and_eq_true, decide_eq_true_eq, beq_iff_eq, and_assoc]
    exact rg0_iff)
  have HC1 := Lib.hid (fun w (h : BxR w W.heap.size x r) => h.cell (ringC_left x r))
  have HC2 := Lib.hid (fun w (h : BxR w W.heap.size x r) => h.cell (ringC_top x r))
  generalize decide (r.cur = gn0) = p at *
  generalize decide (r.old = gn0) = q at *
  generalize decide (r.pend = gn0) = s at *
  obtain ⟨u, hu⟩ : ∃ u, u = (r.left == 0) := ⟨_, rfl⟩
  obtain ⟨v, hv⟩ : ∃ v, v = (r.top == 0) := ⟨_, rfl⟩
  rw [← hu, ← hv] at HD
  have HU := Lib.hid hu.symm
  have HVV := Lib.hid hv.symm
  clear hg hb hC hV hD hu hv
  go_enter Try.func31, Try.ntmps31
  go_upto_region 1 with (fail)
  rw [← HV.out]
  clear HV
  have x0 := HG.out.cell (ringC_cn x r)
  have x1 := HG.out.cell (ringC_ck x r)
  go_wp2_with fail
  refine (C1.out _).mono ?_
  rintro e w1 ⟨rfl, hb⟩
  have HB1 := Lib.hid (belG HB.out hb HB.out.size)
  have HG1 := Lib.hid (HG.out.old hb (Nat.le_refl _))
  clear hb HB HG x0 x1
  have x0 := HG1.out.cell (ringC_on x r)
  have x1 := HG1.out.cell (ringC_ok x r)
  go_wp2_with fail
  refine (C2.out _).mono ?_
  rintro e w2 ⟨rfl, hb⟩
  have HB2 := Lib.hid (belG HB1.out hb HB1.out.size)
  have HG2 := Lib.hid (HG1.out.old hb (Nat.le_refl _))
  clear hb HB1 HG1 x0 x1
  have x0 := HG2.out.cell (ringC_pn x r)
  have x1 := HG2.out.cell (ringC_pk x r)
  go_wp2_with fail
  refine (C3.out _).mono ?_
  rintro e w3 ⟨rfl, hb⟩
  have HB3 := Lib.hid (belG HB2.out hb HB2.out.size)
  have HG3 := Lib.hid (HG2.out.old hb (Nat.le_refl _))
  clear hb HB2 HG2 x0 x1
  have x0 := HC1.out _ HG3.out
  have x1 := HC2.out _ HG3.out
  have hU := HU.out
  have hV := HVV.out
  clear HC1 HC2 HU HVV
  generalize r.left = l at *
  generalize r.top = t at *
  cases p
  · obtain rfl : D = false := HD.out
    clear HD
    go_wp2
    go_ret
    exact ⟨rfl, HB3.out⟩
  cases q
  · obtain rfl : D = false := HD.out
    clear HD
    go_wp2
    go_ret
    exact ⟨rfl, HB3.out⟩
  cases s
  · obtain rfl : D = false := HD.out
    clear HD
    go_wp2
    go_ret
    exact ⟨rfl, HB3.out⟩
  cases u
  · obtain rfl : D = false := HD.out
    clear HD
    go_wp2
    go_ret
    exact ⟨rfl, HB3.out⟩
  obtain rfl : D = v := HD.out
  clear HD
  go_wp2
  go_ret
  exact ⟨rfl, HB3.out⟩
end Go.Proofs.Ytgnccfcdonoegaa
/- The document's answers (ring): Few, sameGen, Same. -/

namespace Go.Proofs.Ytgnccfcdonoegaa
open Go.RowKit

set_option maxRecDepth 100000 in
theorem dec_le {n : Nat} {k : Nat} : decide ((n : Int) ≤ (k : Int)) = decide (n ≤ k) := decide_eq_decide.2 (by omega)
set_option maxRecDepth 100000 in
theorem few11_any (x : Wg) (r : Rg) (W : World) : Calls Try.prog 9 #[.agg (ringC x r)] W fun e W' => e = .returned (.bool (decide (fewR r))) ∧ Below W.heap.size W W' := by
  obtain ⟨V, C, hC, hV, hb, hg⟩ := bxR1 W x r
  have x0 := hg.cell (ringC_ck x r)
  have x1 := hg.cell (ringC_ok x r)
  have x2 := hg.cell (ringC_pk x r)
  have HB := Lib.hid hb
  have HV := Lib.hid hV
  rw [← hC]
  rw [hV] at x0 x1 x2
  obtain ⟨D, hD⟩ : ∃ D, D = decide (fewR r) := ⟨_, rfl⟩
  rw [← hD]
  have HD := Lib.hid (show D = true ↔ (r.cur.key.length ≤ 100 ∧ r.old.key.length ≤ 100 ∧ r.pend.key.length ≤ 100) from by rw [hD, decide_eq_true_iff]; exact Iff.rfl)
  generalize r.cur.key.length = n0 at *
  generalize r.old.key.length = n1 at *
  generalize r.pend.key.length = n2 at *
  clear hg hb hC hV hD
  have HF := Lib.hid (show ¬ (n0 ≤ 100 ∧ n1 ≤ 100 ∧ n2 ≤ 100) → D = false from fun h => by
    cases D with
    | false => rfl
    | true => exact absurd (HD.out.1 rfl) h)
  by_cases h0 : (n0 : Int) ≤ 100
  · by_cases h1 : (n1 : Int) ≤ 100
    · by_cases h2 : (n2 : Int) ≤ 100
      · obtain rfl : D = true := HD.out.2 ⟨by omega, by omega, by omega⟩
        go_enter Try.func9, Try.ntmps9
        go_wp2
        go_ret
        exact ⟨by first | rfl | (simp [h2]; done) | (simp; omega), by rw [← HV.out]; exact HB.out⟩
      · obtain rfl : D = false := HF.out (fun h => by omega)
        go_enter Try.func9, Try.ntmps9
        go_wp2
        go_ret
        exact ⟨by first | rfl | (simp [h2]; done) | (simp; omega), by rw [← HV.out]; exact HB.out⟩
    · obtain rfl : D = false := HF.out (fun h => by omega)
      go_enter Try.func9, Try.ntmps9
      go_wp2
      go_ret
      exact ⟨by first | rfl | (simp; done) | (simp; omega), by rw [← HV.out]; exact HB.out⟩
  · obtain rfl : D = false := HF.out (fun h => by omega)
    go_enter Try.func9, Try.ntmps9
    go_wp2
    go_ret
    exact ⟨by first | rfl | (simp; done) | (simp; omega), by rw [← HV.out]; exact HB.out⟩
set_option maxRecDepth 100000 in
theorem bxG2 (W : World) (x y : Wk) (g h : Gn) : ∃ V C D, C = genC x g ∧ D = genC y h ∧ V = (W.alloc (.cells C 24)).alloc (.cells D 24) ∧ Below W.heap.size W V ∧ Bx V W.heap.size 24 (genC x g) ∧ Bx V (W.heap.size + 1) 24 (genC y h) := by
  obtain ⟨V, h1, h2, h3, h4, -⟩ := bx2 W 24 24 (genC x g) (genC y h)
  exact ⟨V, _, _, rfl, rfl, h1, h2, h3, h4⟩
set_option maxRecDepth 100000 in
theorem bxR2 (W : World) (x y : Wg) (r s : Rg) : ∃ V C D, C = ringC x r ∧ D = ringC y s ∧ V = (W.alloc (.cells C 26)).alloc (.cells D 26) ∧ Below W.heap.size W V ∧ BxR V W.heap.size x r ∧ BxR V (W.heap.size + 1) y s ∧ V.heap.size = W.heap.size + 2 := by
  obtain ⟨V, h1, h2, h3, h4, h5⟩ := bx2 W 26 26 (ringC x r) (ringC y s)
  exact ⟨V, _, _, rfl, rfl, h1, h2, h3, h4, h5⟩
set_option maxRecDepth 100000 in
theorem sameGen11_any (x y : Wk) (g h : Gn) (W : World) (hg : KeyR W x g.key) (hh : KeyR W y h.key) : Calls Try.prog 36 #[.agg (genC x g), .agg (genC y h)] W fun e W' => e = .returned (.bool (decide (g = h))) ∧ Below W.heap.size W W' := by
  obtain ⟨V, C, D, hC, hD, hV, hb, k1, k2⟩ := bxG2 W x y g h
  have CS := Lib.hid (same_any x.1 y.1 g.key h.key x.2 y.2 _ _ V (hg.go hb).2.2 (hh.go hb).2.2)
  rw [← hC, ← hD]
  have x0 : V.cell? ⟨W.heap.size, 0, none⟩ = some (.int .i64 g.no) := k1.cell rfl
  have x1 : V.cell? ⟨W.heap.size, 1, none⟩ = some (.slice x.1 g.key.length x.2) := k1.cell rfl
  have y0 : V.cell? ⟨W.heap.size + 1, 0, none⟩ = some (.int .i64 h.no) := k2.cell rfl
  have y1 : V.cell? ⟨W.heap.size + 1, 1, none⟩ = some (.slice y.1 h.key.length y.2) := k2.cell rfl
  have HB := Lib.hid hb
  have HV := Lib.hid hV
  obtain ⟨E, hE⟩ : ∃ E, E = decide (g = h) := ⟨_, rfl⟩
  rw [← hE]
  have HE := Lib.hid (show E = (decide (g.no = h.no) && decide (g.key = h.key)) from by
    rw [hE, Bool.eq_iff_iff]
    simp only [Bool.and_eq_true, decide_eq_true_eq]
    exact ⟨fun e => by rw [e]; exact ⟨rfl, rfl⟩, fun e => Gn.ext' e.1 e.2⟩)
  generalize decide (g.key = h.key) = q at *
  generalize g.key.length = n at *
  generalize h.key.length = m at *
  generalize g.no = a at *
  generalize h.no = b at *
  clear hC hD hV hb k1 k2 hE hg hh
  by_cases hab : a = b
  · subst hab
    obtain rfl : E = q := HE.out.trans (by simp)
    go_enter Try.func36, Try.ntmps36
    go_upto_region 1 with (fail)
    rw [← HV.out]
    go_wp2_with fail
    refine CS.out.mono ?_
    rintro e w1 ⟨rfl, hw⟩
    obtain rfl := hw
    go_wp2
    go_ret
    exact ⟨rfl, HB.out⟩
  · obtain rfl : E = false := HE.out.trans (by rw [decide_eq_false hab]; rfl)
    have h2 : (a == b) = false := beq_eq_false_iff_ne.2 hab
    go_enter Try.func36, Try.ntmps36
    go_upto_region 1 with (fail)
    rw [← HV.out]
    go_wp2
    go_ret
    exact ⟨by first | rfl | (simp [hab]; done), HB.out⟩
set_option maxRecDepth 100000 in
set_option maxHeartbeats 2000000 in
theorem same11_any (x y : Wg) (r s : Rg) (W : World) (hr : RingR W x r) (hs : RingR W y s) : Calls Try.prog 13 #[.agg (ringC x r), .agg (ringC y s)] W fun e W' => e = .returned (.bool (decide (r = s))) ∧ Below W.heap.size W W' := by
  obtain ⟨V, C, D, hC, hD, hV, hb, hg, hg2, -⟩ := bxR2 W x y r s
  have HB := Lib.hid hb
  have HV := Lib.hid hV
  have HG := Lib.hid hg
  have HJ := Lib.hid hg2
  have CS := Lib.hid (fun w (h : Below W.heap.size W w) => And.intro (sameGen11_any x.cur y.cur r.cur s.cur w (hr.1.go h) (hs.1.go h)) (And.intro (sameGen11_any x.old y.old r.old s.old w (hr.2.1.go h) (hs.2.1.go h)) (sameGen11_any x.pend y.pend r.pend s.pend w (hr.2.2.go h) (hs.2.2.go h))))
  rw [← hC, ← hD]
  obtain ⟨E, hE⟩ : ∃ E, E = decide (r = s) := ⟨_, rfl⟩
  rw [← hE]
  have HE := Lib.hid (show E = (decide (r.cur = s.cur) && decide (r.old = s.old) && decide (r.pend = s.pend) && (r.left == s.left) && (r.top == s.top)) from by
    rw [hE, Bool.eq_iff_iff]
    simp only [Bool.and_eq_true, decide_eq_true_eq, beq_iff_eq, and_assoc]
    exact ⟨fun e => by rw [e]; exact ⟨rfl, rfl, rfl, rfl, rfl⟩, fun e => Rg.ext' e.1 e.2.1 e.2.2.1 e.2.2.2.1 e.2.2.2.2⟩)
  have HC1 := Lib.hid (fun w (h : BxR w W.heap.size x r) => And.intro (h.cell (ringC_left x r)) (h.cell (ringC_top x r)))
  have HC2 := Lib.hid (fun w (h : BxR w (W.heap.size + 1) y s) => And.intro (h.cell (ringC_left y s)) (h.cell (ringC_top y s)))
  generalize decide (r.cur = s.cur) = p at *
  generalize decide (r.old = s.old) = q at *
  generalize decide (r.pend = s.pend) = t at *
  obtain ⟨u, hu⟩ : ∃ u, u = (r.left == s.left) := ⟨_, rfl⟩
  obtain ⟨v, hv⟩ : ∃ v, v = (r.top == s.top) := ⟨_, rfl⟩
  rw [← hu, ← hv] at HE
  have HU := Lib.hid hu.symm
  have HVV := Lib.hid hv.symm
  clear hg hg2 hb hC hD hV hE hu hv hr hs
  go_enter Try.func13, Try.ntmps13
  go_upto_region 1 with (fail)
  rw [← HV.out]
  clear HV
  have x0 := HG.out.cell (ringC_cn x r)
  have x1 := HG.out.cell (ringC_ck x r)
  have y0 := HJ.out.cell (ringC_cn y s)
  have y1 := HJ.out.cell (ringC_ck y s)
  go_wp2_with fail
  refine ((CS.out _ HB.out).1).mono ?_
  rintro e w1 ⟨rfl, hb⟩
  have HB1 := Lib.hid (belG HB.out hb HB.out.size)
  have HG1 := Lib.hid (HG.out.old hb (Nat.le_refl _))
  have HJ1 := Lib.hid (HJ.out.old hb (Nat.le_refl _))
  clear hb HB HG HJ x0 x1 y0 y1
  have x0 := HG1.out.cell (ringC_on x r)
  have x1 := HG1.out.cell (ringC_ok x r)
  have y0 := HJ1.out.cell (ringC_on y s)
  have y1 := HJ1.out.cell (ringC_ok y s)
  go_wp2_with fail
  refine ((CS.out _ HB1.out).2.1).mono ?_
  rintro e w2 ⟨rfl, hb⟩
  have HB2 := Lib.hid (belG HB1.out hb HB1.out.size)
  have HG2 := Lib.hid (HG1.out.old hb (Nat.le_refl _))
  have HJ2 := Lib.hid (HJ1.out.old hb (Nat.le_refl _))
  clear hb HB1 HG1 HJ1 x0 x1 y0 y1
  have x0 := HG2.out.cell (ringC_pn x r)
  have x1 := HG2.out.cell (ringC_pk x r)
  have y0 := HJ2.out.cell (ringC_pn y s)
  have y1 := HJ2.out.cell (ringC_pk y s)
  go_wp2_with fail
  refine ((CS.out _ HB2.out).2.2).mono ?_
  rintro e w3 ⟨rfl, hb⟩
  have HB3 := Lib.hid (belG HB2.out hb HB2.out.size)
  have HG3 := Lib.hid (HG2.out.old hb (Nat.le_refl _))
  have HJ3 := Lib.hid (HJ2.out.old hb (Nat.le_refl _))
  clear hb HB2 HG2 HJ2 x0 x1 y0 y1
  obtain ⟨x0, x1⟩ := HC1.out _ HG3.out
  obtain ⟨y0, y1⟩ := HC2.out _ HJ3.out
  have hU := HU.out
  have hV := HVV.out
  clear HC1 HC2 HU HVV CS
  generalize r.left = l at *
  generalize r.top = m at *
  generalize s.left = l2 at *
  generalize s.top = m2 at *
  cases p
  · obtain rfl : E = false := HE.out
    clear HE
    go_wp2
    go_ret
    exact ⟨rfl, HB3.out⟩
  cases q
  · obtain rfl : E = false := HE.out
    clear HE
    go_wp2
    go_ret
    exact ⟨rfl, HB3.out⟩
  cases t
  · obtain rfl : E = false := HE.out
    clear HE
    go_wp2
    go_ret
    exact ⟨rfl, HB3.out⟩
  cases u
  · obtain rfl : E = false := HE.out
    clear HE
    go_wp2
    go_ret
    exact ⟨rfl, HB3.out⟩
  obtain rfl : E = v := HE.out
  clear HE
  go_wp2
  go_ret
  exact ⟨rfl, HB3.out⟩
end Go.Proofs.Ytgnccfcdonoegaa
/- The document's answers (ring): New, Next, Find, Withdraw, Turn, Tick. -/

namespace Go.Proofs.Ytgnccfcdonoegaa
open Go.RowKit

def AnsRg (W' : World) (e : Ending) (r : Rg) (n : Int) : Prop := ∃ x, e = .returned (.tuple #[.agg (ringC x r), .int .i64 n]) ∧ RingR W' x r
def AnsR1 (W' : World) (e : Ending) (r : Rg) : Prop := ∃ x, e = .returned (.agg (ringC x r)) ∧ RingR W' x r
def AnsFi (W' : World) (e : Ending) (r : List UInt8 × Bool) : Prop := ∃ x : Wk, e = .returned (.tuple #[.slice x.1 r.1.length x.2, .bool r.2]) ∧ KeyR W' x r.1
set_option maxRecDepth 100000 in
theorem ringEnd {W w : World} {g : Nat} {x : Wg} {r : Rg} {n : Int} (hb : Below W.heap.size W w) (hg : W.heap.size ≤ g) (hr : RingR W x r) :
    AnsRg (w.setRow g (ringC x r)) (.returned (.tuple #[.agg (ringC x r), .int .i64 n])) r n ∧ Below W.heap.size W (w.setRow g (ringC x r)) := ⟨⟨x, rfl, hr.go (Below.setRowG hb hg _)⟩, Below.setRowG hb hg _⟩
set_option maxRecDepth 100000 in
theorem ringEnd1 {W w : World} {g : Nat} {x : Wg} {r : Rg} (hb : Below W.heap.size W w) (hg : W.heap.size ≤ g) (hr : RingR W x r) :
    AnsR1 (w.setRow g (ringC x r)) (.returned (.agg (ringC x r))) r ∧ Below W.heap.size W (w.setRow g (ringC x r)) := ⟨⟨x, rfl, hr.go (Below.setRowG hb hg _)⟩, Below.setRowG hb hg _⟩
set_option maxRecDepth 100000 in
/-- the answer's box, made -/
theorem bxZ (W : World) : ∃ V, V = W.alloc (.cells #[.int .i64 0, .slice none 0 0, .int .i64 0, .slice none 0 0, .int .i64 0, .slice none 0 0, .int .i64 0, .int .i64 0] 26) ∧ Below W.heap.size W V ∧ BxR V W.heap.size wg0 rg0 := bx1 W 26 (ringC wg0 rg0)
set_option maxRecDepth 100000 in
/-- a ring's box, and the box of the answer -/
theorem bxRZ (W : World) (x : Wg) (r : Rg) : ∃ V C, C = ringC x r ∧ V = (W.alloc (.cells C 26)).alloc (.cells #[.int .i64 0, .slice none 0 0, .int .i64 0, .slice none 0 0, .int .i64 0, .slice none 0 0, .int .i64 0, .int .i64 0] 26) ∧ Below W.heap.size W V ∧ BxR V W.heap.size x r ∧ BxR V (W.heap.size + 1) wg0 rg0 := by
  obtain ⟨V, h1, h2, h3, h4, -⟩ := bx2 W 26 26 (ringC x r) (ringC wg0 rg0)
  exact ⟨V, _, rfl, h1, h2, h3, h4⟩
set_option maxRecDepth 100000 in
theorem new11_any (A : Option Addr) (k : List UInt8) (c : Nat) (W : World) (hk : KeyR W (A, c) k) : Calls Try.prog 11 #[.slice A k.length c] W fun e W' => AnsRg W' e (newR k).1 (newR k).2 ∧ Below W.heap.size W W' := by
  obtain ⟨V, hV, hb, hg⟩ := bxZ W
  have HB := Lib.hid hb
  have HV := Lib.hid hV
  have HG := Lib.hid hg
  have HK := Lib.hid hk
  clear hV hb hg hk
  unfold newR
  by_cases h32 : k.length = 32
  · rw [if_pos h32]
    obtain ⟨n, hn⟩ : ∃ n, n = k.length := ⟨_, rfl⟩
    have HN := Lib.hid hn
    rw [← hn] at h32 ⊢
    clear hn
    subst h32
    go_enter Try.func11, Try.ntmps11
    go_upto_region 1 with (fail)
    rw [← HV.out]
    go_wp2_with (refine storeX (.tmp 2) (.tmp 10) W.heap.size (ringC ⟨(A, c), wk0, wk0⟩ ⟨⟨1, k⟩, gn0, gn0, 0, 1⟩) _ tyRing rfl (ringC_one _ _) HG.out rfl rfl rfl rfl (by show Value.agg #[.int .i64 1, .slice A 32 c, .int .i64 0, .slice none 0 0, .int .i64 0, .slice none 0 0, .int .i64 0, .int .i64 1] = _; rw [HN.out]; rfl) ?_)
    (try simp only [Exit.inBlock, Exit.then])
    refine bodyPost_ret (retX2 rfl _ _ W.heap.size (ringC ⟨(A, c), wk0, wk0⟩ ⟨⟨1, k⟩, gn0, gn0, 0, 1⟩) _ tyRing rfl rfl rfl (HG.out.setRow _)) rfl ?_
    exact ringEnd HB.out (Nat.le_refl _) ⟨HK.out, keyR0 W, keyR0 W⟩
  · rw [if_neg h32]
    obtain ⟨n, hn⟩ : ∃ n, n = k.length := ⟨_, rfl⟩
    rw [← hn] at h32 ⊢
    clear hn
    have h3 : ((n : Int) == 32) = false := beq_eq_false_iff_ne.2 (by omega)
    go_enter Try.func11, Try.ntmps11
    go_upto_region 1 with (fail)
    rw [← HV.out]
    go_wp2_with (refine storeX (.tmp 2) (.tmp 7) W.heap.size (ringC wg0 rg0) _ tyRing rfl (ringC_one _ _) HG.out rfl rfl rfl rfl rfl ?_)
    (try simp only [Exit.inBlock, Exit.then])
    refine bodyPost_ret (retX2 rfl _ _ W.heap.size (ringC wg0 rg0) _ tyRing rfl rfl rfl (HG.out.setRow _)) rfl ?_
    exact ringEnd HB.out (Nat.le_refl _) (ringR0 W)
set_option maxRecDepth 100000 in
theorem next11_any (x : Wg) (r : Rg) (W : World) (hl : Rg64 r) : Calls Try.prog 17 #[.agg (ringC x r)] W fun e W' => e = .returned (.tuple #[.int .i64 (nextR r).1, .int .i64 (nextR r).2]) ∧ Below W.heap.size W W' := by
  obtain ⟨V, C, hC, hV, hb, hg⟩ := bxR1 W x r
  have HB := Lib.hid hb
  have HV := Lib.hid hV
  have HG := Lib.hid hg
  have CE := Lib.hid (empty11_any x r V)
  rw [← hC]
  obtain ⟨t, ht⟩ : ∃ t, t = r.top := ⟨_, rfl⟩
  have HC := Lib.hid (fun w (h : BxR w W.heap.size x r) => (show w.cell? ⟨W.heap.size, 7, none⟩ = some (.int .i64 t) from by rw [ht]; exact h.cell (ringC_top x r)))
  have hl2 := hl.2.2.2.2
  unfold nextR
  rw [← ht] at hl2 ⊢
  clear hC hV hb hg hl ht
  obtain ⟨l1, l2⟩ := hl2
  by_cases h0 : r = rg0
  · rw [if_pos h0]
    rw [decide_eq_true h0] at CE
    clear h0
    go_enter Try.func17, Try.ntmps17
    go_upto_region 1 with (fail)
    rw [← HV.out]
    go_wp2_with (refine loadX (.tmp 1) W.heap.size _ tyRing rfl HG.out rfl rfl rfl ?_)
    refine CE.out.mono ?_
    rintro e w1 ⟨rfl, hb⟩
    have HB1 := Lib.hid (belG HB.out hb HB.out.size)
    clear hb
    go_wp2_with fail
    go_ret2
    exact ⟨rfl, HB1.out⟩
  rw [if_neg h0]
  rw [decide_eq_false h0] at CE
  clear h0
  by_cases h1 : 2147483647 ≤ t
  · rw [if_pos h1]
    go_enter Try.func17, Try.ntmps17
    go_upto_region 1 with (fail)
    rw [← HV.out]
    go_wp2_with (refine loadX (.tmp 1) W.heap.size _ tyRing rfl HG.out rfl rfl rfl ?_)
    refine CE.out.mono ?_
    rintro e w1 ⟨rfl, hb⟩
    have HB1 := Lib.hid (belG HB.out hb HB.out.size)
    have x0 := HC.out _ (HG.out.old hb (Nat.le_refl _))
    clear hb
    go_wp2_with fail
    go_ret2
    exact ⟨rfl, HB1.out⟩
  · rw [if_neg h1]
    have hw : IntKind.i64.wrap (t + 1) = t + 1 := IntWalk.i64_in _ (by omega)
    have hw2 : wrap64 (t + 1) = t + 1 := by unfold wrap64; omega
    go_enter Try.func17, Try.ntmps17
    go_upto_region 1 with (fail)
    rw [← HV.out]
    go_wp2_with (refine loadX (.tmp 1) W.heap.size _ tyRing rfl HG.out rfl rfl rfl ?_)
    refine CE.out.mono ?_
    rintro e w1 ⟨rfl, hb⟩
    have HB1 := Lib.hid (belG HB.out hb HB.out.size)
    have x0 := HC.out _ (HG.out.old hb (Nat.le_refl _))
    clear hb
    go_wp2_with fail
    go_ret2
    exact ⟨by first | rfl | (simp [hw, hw2]; done), HB1.out⟩
set_option maxRecDepth 100000 in
theorem find11_any (x : Wg) (r : Rg) (no : Int) (W : World) (hr : RingR W x r) : Calls Try.prog 19 #[.agg (ringC x r), .int .i64 no] W fun e W' => AnsFi W' e (findR r no) ∧ Below W.heap.size W W' := by
  obtain ⟨V, C, hC, hV, hb, hg⟩ := bxR1 W x r
  have x0 := hg.cell (ringC_cn x r)
  have x1 := hg.cell (ringC_ck x r)
  have y0 := hg.cell (ringC_on x r)
  have y1 := hg.cell (ringC_ok x r)
  have z0 := hg.cell (ringC_pn x r)
  have z1 := hg.cell (ringC_pk x r)
  have HB := Lib.hid hb
  have HV := Lib.hid hV
  have HR := Lib.hid (hr.go hb)
  rw [← hC]
  rw [hV] at x0 x1 y0 y1 z0 z1
  unfold findR
  generalize r.cur.no = a at *
  generalize r.old.no = b at *
  generalize r.pend.no = c at *
  clear hC hV hb hg hr
  by_cases h0 : no < 1
  · rw [if_pos h0]
    go_enter Try.func19, Try.ntmps19
    go_wp2_with fail
    go_ret2
    exact ⟨⟨wk0, rfl, keyR0 _⟩, by rw [← HV.out]; exact HB.out⟩
  rw [if_neg h0]
  by_cases h1 : a = no
  · rw [if_pos h1]
    subst h1
    go_enter Try.func19, Try.ntmps19
    go_wp2_with fail
    go_ret2
    rw [← HV.out]
    exact ⟨⟨x.cur, rfl, HR.out.1⟩, HB.out⟩
  rw [if_neg h1]
  have b1 : (a == no) = false := beq_eq_false_iff_ne.2 h1
  by_cases h2 : b = no
  · rw [if_pos h2]
    subst h2
    go_enter Try.func19, Try.ntmps19
    go_wp2_with fail
    go_ret2
    rw [← HV.out]
    exact ⟨⟨x.old, rfl, HR.out.2.1⟩, HB.out⟩
  rw [if_neg h2]
  have b2 : (b == no) = false := beq_eq_false_iff_ne.2 h2
  by_cases h3 : c = no
  · rw [if_pos h3]
    subst h3
    go_enter Try.func19, Try.ntmps19
    go_wp2_with fail
    go_ret2
    rw [← HV.out]
    exact ⟨⟨x.pend, rfl, HR.out.2.2⟩, HB.out⟩
  rw [if_neg h3]
  have b3 : (c == no) = false := beq_eq_false_iff_ne.2 h3
  go_enter Try.func19, Try.ntmps19
  go_wp2_with fail
  go_ret2
  exact ⟨⟨wk0, rfl, keyR0 _⟩, by rw [← HV.out]; exact HB.out⟩
end Go.Proofs.Ytgnccfcdonoegaa
