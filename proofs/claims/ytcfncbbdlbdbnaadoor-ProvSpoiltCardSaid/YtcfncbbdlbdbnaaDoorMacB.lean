
/- mac.Tag's closure, mac.behind. -/
import Derived.Test.YtcfncbbdlbdbnaaDoorMacA
namespace Go.Proofs.YtcfncbbdlbdbnaaDoor
open Go.RowKit

theorem b_xor (a b : UInt8) : bits .xor .u8 (a.toNat : Int) (b.toNat : Int) = ((a ^^^ b).toNat : Int) := by
  rw [u8_xor_nat _ _ a.toNat_lt b.toNat_lt, UInt8.toNat_xor]
theorem b_or (a b : UInt8) : bits .or .u8 (a.toNat : Int) (b.toNat : Int) = ((a ||| b).toNat : Int) := by
  rw [u8_or_nat _ _ a.toNat_lt b.toNat_lt, UInt8.toNat_or]
def xat (x : UInt8) (l : List UInt8) (k j : Nat) : Value := .int .u8 ((if j < k then l.getD j 0 ^^^ x else 0).toNat : Int)
theorem xat_next (x : UInt8) (l : List UInt8) (k j : Nat) : xat x l (k + 1) j = if j = k then .int .u8 ((l.getD k 0 ^^^ x).toNat : Int) else xat x l k j := by
  unfold xat
  by_cases h : j = k
  · subst h; rw [if_pos (by omega), if_pos rfl]
  · rw [if_neg h]
    by_cases h2 : j < k
    · rw [if_pos h2, if_pos (by omega)]
    · rw [if_neg h2, if_neg (by omega)]
theorem xat_all (x : UInt8) (l : List UInt8) (n : Nat) (hn : l.length = n) : ∀ j (hj : j < (xorL x l).length), xat x l n j = .int .u8 ((xorL x l)[j].toNat : Int) := by
  intro j hj
  have hj' : j < l.length := by rw [xorL_length] at hj; exact hj
  have e : (xorL x l)[j] = l[j] ^^^ x := by simp only [xorL, List.getElem_map]
  unfold xat
  rw [e, if_pos (by omega), List.getD_eq_getElem?_getD, List.getElem?_eq_getElem hj']
  rfl

set_option maxRecDepth 100000 in
set_option maxHeartbeats 1000000 in
theorem turn_any (x : UInt8) (p g : Nat) (l : List UInt8) (hl : l.length = 64) (w : World) (hp : w.heap[p]? = some (.cells #[.slice (some ⟨g, 0, none⟩) 64 64] 25 (0, 0))) (hg : w.heap[g]? = some (.cells (cs l).toArray 5 (0, 0))) :
    Calls Tryd.prog 42 #[.int .u8 (x.toNat : Int), .pointer (some ⟨p, 0, none⟩)] w fun e w' => AnsK w.heap.size w' e (xorL x l) ∧ Below w.heap.size w w' := by
  obtain ⟨i0, hi, hz0, hz1, hz2⟩ := info_parts info5
  have HL := Lib.hid hl
  have HC := Lib.hid (fun w' (h : Below w.heap.size w w') (k : Nat) (hk : k < 64) => show w'.cell? ⟨g, k, none⟩ = some (.int .u8 ((l.getD k 0).toNat : Int)) from (cs_row (old_below hg h (Nat.le_refl _))).cell (by omega))
  have hpc : (w.alloc (.cells (madeCells #[.int .u8 0] 64) 5)).cell? ⟨p, 0, none⟩ = some (.slice (some ⟨g, 0, none⟩) 64 64) := cell_of_row _ _ _ _ _ _ (old_alloc hp _) |>.trans rfl
  have HR0 := Lib.hid (World.rowIs_made w (.int .u8 0) 64 5)
  have HB0 := Lib.hid (show Below w.heap.size w (w.alloc (.cells (madeCells #[.int .u8 0] 64) 5)) from (Below.refl _ _).alloc (Nat.le_refl _) _)
  have HX := Lib.hid (xat_next x l)
  have HA := Lib.hid (xat_all x l 64 hl)
  clear hg hp hl
  go_enter Tryd.func42, Tryd.ntmps42
  go_wp2_with (at_make; refine wpList_make_row w rfl _ _ 25 rfl 5 i0 (.int .u8 0) Tryd.underlying25 hi hz0 hz1 rfl .i64 .i64 64 rfl rfl (by rw [hz2]; omega) (by omega) ?_; generalize w.alloc (.cells (madeCells #[.int .u8 0] 64) 5) = W1 at *)
  go_loopw [10] (fun v wr => ∃ k : Nat, k ≤ 64 ∧ v = .int .i64 k ∧ wr.rowIs w.heap.size 5 64 (xat x l k) ∧ Below w.heap.size w wr) (fun v _ => 64 - (intOf v).toNat)
  case atStart => exact ⟨0, by omega, rfl, HR0.out.congr (fun j _ => by unfold xat; rw [if_neg (by omega)]; rfl), HB0.out⟩
  case round =>
    clear HR0 HB0
    obtain ⟨k, hk, rfl, hrow, hbel⟩ := hrel
    have HR := Lib.hid hrow
    have HB := Lib.hid hbel
    clear hrow hbel
    by_cases hlt : k < 64
    · have c1 := HC.out _ HB.out k hlt
      have d2 := HR.out.frozen k
      have c2 := HR.out.cell (i := k) hlt
      have hlti : (k : Int) < 64 := by omega
      have hk0 : (0 : Int) ≤ (k : Int) := Int.natCast_nonneg _
      have HS := Lib.hid (World.rowIs.congr (g := xat x l (k + 1)) (HR.out.set k (.int .u8 (bits .xor .u8 ((l.getD k 0).toNat : Int) (x.toNat : Int)))) (fun j _ => by rw [HX.out k j, b_xor]))
      generalize l.getD k 0 = y at *
      go_wp2
      go_roundw
      case rel => exact ⟨k + 1, by omega, by go_num, HS.out, HB.out.setCell (Nat.le_refl _) _⟩
      case measure => simp [intOf]; omega
    · have hk8 : k = 64 := by omega
      subst hk8
      go_wp2
      go_ret
      exact ⟨⟨w.heap.size, rfl, row_cs HR.out (by rw [xorL_length]; exact HL.out) HA.out, Nat.le_refl _⟩, HB.out⟩

set_option maxRecDepth 100000 in
set_option maxHeartbeats 1000000 in
/-- the digest of two rows, one behind the other -/
theorem behind_any (A C : Option Addr) (l m : List UInt8) (c d n : Nat) (w : World) (hl : l.length = 64) (hm : m.length ≤ 99000) (hn : n = m.length) (hlc : 64 ≤ c) (hmd : m.length ≤ d) (hr : Rd w w.heap.size A l) (hs : Rd w w.heap.size C m) (hk : Ks w) :
    Calls Tryd.prog 43 #[.slice A 64 c, .slice C n d] w fun e w' => AnsB w' e (ofF (l ++ m)) 32 ∧ Below w.heap.size w w' := by
  subst hn
  have RA := Lib.hid (fun w' (h : Below w.heap.size w w') => (hr.below h (Nat.le_refl _)).more h.size)
  have RC := Lib.hid (fun w' (h : Below w.heap.size w w') => (hs.below h (Nat.le_refl _)).more h.size)
  have KB := Lib.hid (fun w' (h : Below w.heap.size w w') => Ks.call hk h)
  have P1 : ∀ W, Rd W W.heap.size A l → Ks W → Calls Tryd.prog 49 #[hv h0 0 (.slice none 0 0), .slice A 64 c] W fun e w' => (∃ A' c', e = .returned (hv (blks h0 l) 64 (.slice A' 0 c'))) ∧ Below W.heap.size W w' := fun W h1 h2 => by
    have h := put_new A l c W (by omega) (by omega) h1 h2
    have hll : (left l).length = 0 := by rw [left_length, hl]
    rw [hl] at h
    refine h.mono ?_
    rintro e w' ⟨⟨A', c', rfl, -, -, -⟩, hb⟩
    rw [hll]
    exact ⟨⟨A', c', rfl⟩, hb⟩
  have P2 : ∀ A' c' W, Rd W W.heap.size C m → Ks W → Calls Tryd.prog 49 #[hv (blks h0 l) 64 (.slice A' 0 c'), .slice C m.length d] W fun e w' => AnsH w' e (blks h0 (l ++ m)) ((64 + m.length : Nat) : Int) (left (l ++ m)) ∧ Below W.heap.size W w' := fun A' c' W h2 h3 => by
    have h := put_any (blks h0 l) 64 A' C [] m c' d W (by simp; omega) (by simp) hmd Rd.nil h2 h3 (by omega)
    have hll : left l = [] := List.eq_nil_of_length_eq_zero (by rw [left_length, hl])
    have e := blks_pieces h0 l m
    rw [hll] at e
    rw [e.1, e.2] at h
    exact h
  have P3 : ∀ A' c' W, (left (l ++ m)).length ≤ c' → Rd W W.heap.size A' (left (l ++ m)) → Ks W → Calls Tryd.prog 48 #[hv (blks h0 (l ++ m)) ((64 + m.length : Nat) : Int) (.slice A' (left (l ++ m)).length c')] W fun e w' => AnsB w' e (ofF (l ++ m)) 32 ∧ Below W.heap.size W w' := fun A' c' W h1 h2 h3 => by
    have h := sum_any (blks h0 (l ++ m)) (64 + m.length) A' (left (l ++ m)) c' W (by have := left_small (l ++ m); omega) h1 h2 h3 (by omega)
    have e : ofF (l ++ m) = sumF (blks h0 (l ++ m)) (left (l ++ m)) (64 + m.length) := by unfold ofF; rw [List.length_append, hl]
    rw [e]
    exact h
  have H1 := Lib.hid P1
  have H2 := Lib.hid P2
  have H3 := Lib.hid P3
  clear P1 P2 P3 hr hs hk
  generalize ofF (l ++ m) = R at *
  generalize blks h0 (l ++ m) = X2 at *
  generalize left (l ++ m) = L2 at *
  generalize blks h0 l = X1 at *
  generalize ((64 + m.length : Nat) : Int) = N2 at *
  generalize m.length = n at *
  obtain ⟨r, hr⟩ : ∃ r, r = L2.length := ⟨_, rfl⟩
  have HRR := Lib.hid hr
  rw [← hr] at H3
  clear hr hl hm
  go_enter Tryd.func43, Tryd.ntmps43
  go_wp2_with fail
  refine (new_any _).mono ?_
  rintro e w1 ⟨rfl, hb1⟩
  have HB1 := Lib.hid hb1
  clear hb1
  go_wp2_with fail
  refine (H1.out _ (RA.out _ HB1.out) (KB.out _ HB1.out)).mono ?_
  rintro e w2 ⟨⟨A2, c2, rfl⟩, hb2⟩
  have HB2 := Lib.hid (HB1.out.trans (hb2.mono HB1.out.size))
  clear hb2 HB1
  go_wp2_with fail
  refine (H2.out _ _ _ (RC.out _ HB2.out) (KB.out _ HB2.out)).mono ?_
  rintro e w3 ⟨⟨A3, c3, rfl, h1, h2, h3⟩, hb3⟩
  have HB3 := Lib.hid (HB2.out.trans (hb3.mono HB2.out.size))
  have HR3 := Lib.hid h3
  rw [← HRR.out] at h1 ⊢
  clear hb3 h3 HB2
  go_wp2_with fail
  refine (H3.out _ _ _ h1 HR3.out (KB.out _ HB3.out)).mono ?_
  rintro e w4 ⟨⟨A4, c4, rfl, h4, h5, h6⟩, hb4⟩
  have HB4 := Lib.hid (HB3.out.trans (hb4.mono HB3.out.size))
  have HR4 := Lib.hid h6
  clear hb4 h6 HB3
  go_wp2_with fail
  go_ret
  exact ⟨⟨A4, c4, rfl, h4, h5, HR4.out⟩, HB4.out⟩
end Go.Proofs.YtcfncbbdlbdbnaaDoor
