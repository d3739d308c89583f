
/- Package iso: rise, numbers. -/
import Derived.Test.YtpfjecjfooefoaaDoorJ17
import Derived.Test.YtpfjecjfooefoaaDoorJ22
import Derived.Deep.RegionHeld3
import Derived.Test.YtpfjecjfooefoaaDoorJ29
import Derived.Test.YtpfjecjfooefoaaDoorJ33
import Derived.Test.YtpfjecjfooefoaaDoorJ35
import Derived.Test.YtpfjecjfooefoaaDoorJ04
namespace Go.Proofs.YtpfjecjfooefoaaDoor
open Go.RowKit

def RiseP (l : List Fl) : Prop := ∀ j (h : j < l.length), 0 < j → l[j - 1].1 < l[j].1
instance (l : List Fl) : Decidable (RiseP l) := inferInstanceAs (Decidable (∀ j (h : j < l.length), 0 < j → l[j - 1].1 < l[j].1))

set_option maxRecDepth 100000 in
set_option maxHeartbeats 4000000 in
theorem rise_any (A : Option Addr) (l : List Fl) (c : Nat) (W : World) (hl : l.length ≤ 1000) (hr : RdF W W.heap.size A l) :
    Calls Tryd.prog 47 #[rowsV A l.length c] W fun e W' => e = .returned (.bool (decide (RiseP l))) ∧ Below W.heap.size W W' := by
  obtain ⟨R, hR⟩ : ∃ R, R = decide (RiseP l) := ⟨_, rfl⟩
  rw [← hR]
  have HR := Lib.hid hR
  obtain ⟨n, hn⟩ : ∃ n, n = l.length := ⟨_, rfl⟩
  have HN := Lib.hid hn
  rw [← hn] at hl ⊢
  have hb := (Below.refl W.heap.size W).alloc (Nat.le_refl _) (.cells #[.slice A n c, noV] 68)
  have hg := heap_alloc_new W (.cells #[.slice A n c, noV] 68)
  obtain ⟨V, hV⟩ : ∃ V, V = W.alloc (.cells #[.slice A n c, noV] 68) := ⟨_, rfl⟩
  rw [← hV] at hb hg
  have RA := Lib.hid (fun w (h : Below V.heap.size V w) => ((hr.below hb (Nat.le_refl _)).more hb.size).go h)
  have HG := Lib.hid hg
  have HB := Lib.hid hb
  have HV := Lib.hid hV
  have CN := Lib.hid noF_any
  clear hR hn hb hg hr
  obtain ⟨e0, e1⟩ := cG2 HG.out
  rw [hV] at e0 e1
  clear hV
  go_enter Tryd.func47, Tryd.ntmps47
  go_wp2
  rw [← HV.out]
  rw [← HV.out] at e0 e1
  clear HV e0 e1
  go_loopw [3] (fun i wr => ∃ k : Nat, 1 ≤ k ∧ (k ≤ n ∨ k = 1) ∧ i = .int .i64 k ∧ Hid (∀ j (h : j < l.length), j < k → 0 < j → l[j - 1].1 < l[j].1) ∧ Hid (Below V.heap.size V wr)) (fun i _ => n + 1 - (intOf i).toNat)
  case atStart => exact ⟨1, Nat.le_refl _, .inr rfl, rfl, Lib.hid (fun j h h1 h2 => absurd h1 (by omega)), Lib.hid (Below.refl _ _)⟩
  case round =>
    obtain ⟨k, hk1, hkn, rfl, HT, HBV⟩ := hrel
    obtain ⟨e0, e1⟩ := cG2 (oldG HG.out HBV.out (Nat.le_refl _))
    by_cases hlt : k < n
    · have hk2 : k < l.length := by rw [← HN.out]; exact hlt
      obtain ⟨b1, o1, A1, c1, rfl, hb1, x1, y1, -, -, -⟩ := (RA.out _ HBV.out).at_ hk2
      obtain ⟨b2, o2, A2, c2, e9, hb2, x2, y2, -, -, -⟩ := (RA.out _ HBV.out).at_ (k := k - 1) (by omega)
      cases e9
      have HNE := Lib.hid (show ¬ l[k - 1].1 < l[k].1 → R = false from fun h => by
        rw [HR.out]
        exact decide_eq_false (fun h1 => h (h1 k hk2 (by omega))))
      have HTN := Lib.hid (show l[k - 1].1 < l[k].1 → ∀ j (h : j < l.length), j < k + 1 → 0 < j → l[j - 1].1 < l[j].1 from fun h j hj h1 h2 => by
        by_cases e : j = k
        · subst e; exact h
        · exact HT.out j hj (by omega) h2)
      obtain ⟨xk, hxk⟩ : ∃ x, x = l[k].1 := ⟨_, rfl⟩
      obtain ⟨yk, hyk⟩ : ∃ x, x = l[k - 1].1 := ⟨_, rfl⟩
      rw [← hxk] at x1 HNE HTN
      rw [← hyk] at x2 HNE HTN
      generalize l[k].2.length = z1 at *
      generalize l[k - 1].2.length = z2 at *
      clear hxk hyk
      have hki : (k : Int) < (n : Int) := by omega
      have hk0 : (0 : Int) ≤ (k : Int) := Int.natCast_nonneg _
      have i1 : (0 : Int) ≤ (k : Int) - 1 := by omega
      have i2 : (k : Int) - 1 < (n : Int) := by omega
      have i3 : ((k : Int) - 1).toNat = k - 1 := by omega
      have i4 : IntKind.i64.wrap ((k : Int) - 1) = (k : Int) - 1 := IntWalk.i64_in _ (by omega)
      have i5 : (1 : Int) ≤ (k : Int) := by omega
      have i6 : (k : Int) ≤ (n : Int) := by omega
      have i7 : ¬ (n : Int) ≤ (k : Int) - 1 := by omega
      have i8 : ¬ (n : Int) < (k : Int) := by omega
      have BB0 := Lib.hid ((Below.refl wr.heap.size wr).drew)
      obtain ⟨s, hs⟩ : ∃ s, s = W.heap.size := ⟨_, rfl⟩
      rw [← hs] at e0 e1 ⊢
      have KEEP := Lib.hid (fun w' (h : Below wr.heap.size wr w') => (show Below wr.heap.size wr w' ∧ w'.cell? ⟨s, 0, none⟩ = some (.slice (some ⟨b1, o1, none⟩) n c) ∧ w'.cell? ⟨s, 1, none⟩ = some noV ∧
          w'.cell? ⟨b1, o1 + k * 2, none⟩ = some (.int .i64 xk) ∧ w'.cell? ⟨b1, o1 + k * 2 + 1, none⟩ = some (.slice A1 z1 c1) ∧ w'.cell? ⟨b1, o1 + (k - 1) * 2, none⟩ = some (.int .i64 yk) ∧ w'.cell? ⟨b1, o1 + (k - 1) * 2 + 1, none⟩ = some (.slice A2 z2 c2) from by
        have hsw : s < wr.heap.size := by rw [hs]; exact Nat.lt_of_lt_of_le (Array.getElem?_eq_some_iff.1 HG.out).1 HBV.out.size
        exact ⟨h, (h.cell (p := ⟨s, 0, none⟩) hsw).trans e0, (h.cell (p := ⟨s, 1, none⟩) hsw).trans e1, (h.cell (p := ⟨b1, o1 + k * 2, none⟩) hb1).trans x1, (h.cell (p := ⟨b1, o1 + k * 2 + 1, none⟩) hb1).trans y1, (h.cell (p := ⟨b1, o1 + (k - 1) * 2, none⟩) hb1).trans x2, (h.cell (p := ⟨b1, o1 + (k - 1) * 2 + 1, none⟩) hb1).trans y2⟩))
      clear hs HT hk2
      by_cases hle : xk ≤ yk
      · have HRF := Lib.hid (HNE.out (by omega))
        have d1 : decide (xk ≤ yk) = true := decide_eq_true hle
        clear HNE HTN
        go_wp2_with fail
        go_region_held3 (fun w' => Below wr.heap.size wr w' ∧ w'.cell? ⟨s, 0, none⟩ = some (.slice (some ⟨b1, o1, none⟩) n c) ∧ w'.cell? ⟨s, 1, none⟩ = some noV ∧ w'.cell? ⟨b1, o1 + k * 2, none⟩ = some (.int .i64 xk) ∧ w'.cell? ⟨b1, o1 + k * 2 + 1, none⟩ = some (.slice A1 z1 c1) ∧ w'.cell? ⟨b1, o1 + (k - 1) * 2, none⟩ = some (.int .i64 yk) ∧ w'.cell? ⟨b1, o1 + (k - 1) * 2 + 1, none⟩ = some (.slice A2 z2 c2))
          (first | with_reducible exact KEEP.out _ BB0.out | with_reducible exact KEEP.out _ BB1.out | with_reducible exact KEEP.out _ BB2.out)
          ((go_at_call 73; refine (CN.out _ _ _ _ _).mono ?_; rintro e w5 ⟨rfl, hb⟩; (first | have BB2 := Lib.hid (belG BB1.out hb BB1.out.size) | have BB1 := Lib.hid (belG BB0.out hb BB0.out.size)); clear hb))
        all_goals
          go_wp2
          go_ret
          exact ⟨by rw [HRF.out]; rfl, belG HB.out (belG HBV.out BB2.out HBV.out.size) HB.out.size⟩
      · have HTQ := Lib.hid (HTN.out (by omega))
        have d1 : decide (xk ≤ yk) = false := decide_eq_false hle
        clear HNE HTN
        go_wp2_with fail
        go_region_held3 (fun w' => Below wr.heap.size wr w' ∧ w'.cell? ⟨s, 0, none⟩ = some (.slice (some ⟨b1, o1, none⟩) n c) ∧ w'.cell? ⟨s, 1, none⟩ = some noV ∧ w'.cell? ⟨b1, o1 + k * 2, none⟩ = some (.int .i64 xk) ∧ w'.cell? ⟨b1, o1 + k * 2 + 1, none⟩ = some (.slice A1 z1 c1) ∧ w'.cell? ⟨b1, o1 + (k - 1) * 2, none⟩ = some (.int .i64 yk) ∧ w'.cell? ⟨b1, o1 + (k - 1) * 2 + 1, none⟩ = some (.slice A2 z2 c2))
          (first | with_reducible exact KEEP.out _ BB0.out | with_reducible exact KEEP.out _ BB1.out | with_reducible exact KEEP.out _ BB2.out)
          ((go_at_call 73; refine (CN.out _ _ _ _ _).mono ?_; rintro e w5 ⟨rfl, hb⟩; (first | have BB2 := Lib.hid (belG BB1.out hb BB1.out.size) | have BB1 := Lib.hid (belG BB0.out hb BB0.out.size)); clear hb))
        all_goals
          go_wp2
          go_roundw
          case rel => exact ⟨k + 1, by omega, .inl (by omega), by go_num, HTQ, Lib.hid (belG HBV.out BB2.out HBV.out.size)⟩
          case measure => simp [intOf]; omega
    · have hki : ¬ (k : Int) < (n : Int) := by omega
      have HRT := Lib.hid (show R = true by
        rw [HR.out]
        exact decide_eq_true (fun j hj h0 => HT.out j hj (by have := HN.out; omega) h0))
      clear HT
      go_wp2
      go_ret
      exact ⟨by rw [HRT.out]; rfl, belG HB.out HBV.out HB.out.size⟩
/-- an answer: numbers -/
def AnsI1 (W' : World) (e : Ending) (l : List Int) (n : Nat) : Prop := ∃ A c, e = .returned (.slice A n c) ∧ n ≤ c ∧ c ≤ 9223372036854775807 ∧ RdI W' W'.heap.size A l
set_option maxRecDepth 100000 in
set_option maxHeartbeats 4000000 in
theorem numbers_any (A : Option Addr) (l : List Fl) (c : Nat) (W : World) (hl : l.length ≤ 1000) (hr : RdF W W.heap.size A l) :
    Calls Tryd.prog 39 #[rowsV A l.length c] W fun e W' => AnsI1 W' e (keysF l) l.length ∧ Below W.heap.size W W' := by
  obtain ⟨R, hR⟩ : ∃ R, R = keysF l := ⟨_, rfl⟩
  rw [← hR]
  have HR := Lib.hid hR
  obtain ⟨n, hn⟩ : ∃ n, n = l.length := ⟨_, rfl⟩
  have HN := Lib.hid hn
  rw [← hn] at hl ⊢
  have hb := (Below.refl W.heap.size W).alloc (Nat.le_refl _) (.cells #[.slice A n c, noV] 68)
  have hg := heap_alloc_new W (.cells #[.slice A n c, noV] 68)
  obtain ⟨V, hV⟩ : ∃ V, V = W.alloc (.cells #[.slice A n c, noV] 68) := ⟨_, rfl⟩
  rw [← hV] at hb hg
  have RA := Lib.hid (fun w (h : Below V.heap.size V w) => ((hr.below hb (Nat.le_refl _)).more hb.size).go h)
  have HG := Lib.hid hg
  have HB := Lib.hid hb
  have HV := Lib.hid hV
  have CN := Lib.hid noF_any
  clear hR hn hb hg hr
  obtain ⟨e0, e1⟩ := cG2 HG.out
  rw [hV] at e0 e1
  clear hV
  go_enter Tryd.func39, Tryd.ntmps39
  go_wp2
  rw [← HV.out]
  rw [← HV.out] at e0 e1
  clear HV e0 e1
  go_loopw [9, 3] (fun i v wr => ∃ k : Nat, k ≤ n ∧ i = .int .i64 k ∧ Hid (OwI wr V.heap.size v ((keysF l).take k)) ∧ Hid (Below V.heap.size V wr)) (fun i _ _ => n - (intOf i).toNat)
  case atStart => exact ⟨0, Nat.zero_le _, rfl, Lib.hid (by rw [List.take_zero]; exact OwI.nil), Lib.hid (Below.refl _ _)⟩
  case round =>
    obtain ⟨k, hk, rfl, HO, HBV⟩ := hrel
    by_cases hlt : k < n
    · have hk2 : k < l.length := by rw [← HN.out]; exact hlt
      obtain ⟨b1, o1, A1, c1, rfl, hb1, x1, y1, -, -, -⟩ := (RA.out _ HBV.out).at_ hk2
      have HNX := Lib.hid (keysF_next l k hk2)
      have HLN := Lib.hid (show ((keysF l).take k).length ≤ 1000 by rw [List.length_take]; omega)
      obtain ⟨xk, hxk⟩ : ∃ x, x = l[k].1 := ⟨_, rfl⟩
      rw [← hxk] at x1 HNX
      generalize l[k].2.length = z1 at *
      have hki : (k : Int) < (n : Int) := by omega
      have hk0 : (0 : Int) ≤ (k : Int) := Int.natCast_nonneg _
      have hal := (Below.refl wr.heap.size wr).alloc (Nat.le_refl _) (.cells #[.int .i64 xk, .slice A1 z1 c1] 60)
      obtain ⟨e0, e1⟩ := cG2 (oldG (oldG HG.out HBV.out (Nat.le_refl _)) hal (Nat.le_refl _))
      have HB1 := Lib.hid (belG HBV.out hal HBV.out.size)
      have HO1 := Lib.hid (HO.out.call hal)
      obtain ⟨f0, f1⟩ := cG2 (heap_alloc_new wr (.cells #[.int .i64 xk, .slice A1 z1 c1] 60))
      clear hxk hal HO hk2 hb1
      obtain ⟨P, hP⟩ : ∃ P, P = (keysF l).take k := ⟨_, rfl⟩
      rw [← hP] at HO1 HLN HNX
      clear hP
      go_wp2_with fail
      refine (CN.out _ _ _ _ _).mono ?_
      rintro e w2 ⟨rfl, hb⟩
      have HB2 := Lib.hid (belG HB1.out hb HB1.out.size)
      have HO2 := Lib.hid (HO1.out.call hb)
      clear hb HB1 HO1 e0 e1 f0 f1
      go_wp2_with (at_builtin; refine wpList_appI _ rfl (.tmp 13) (.tmp 18) rfl V.heap.size _ P [xk] rfl (by exact HO2.out.alloc _) (some ⟨w2.heap.size, 0, none⟩) 1 1 (w2.heap.size + 1) rfl rfl (by exact rdi_new1 w2 xk) (by have := HLN.out; show P.length + 1 ≤ _; omega) (by exact le_alloc HB2.out.size _) ?_; intro v3 w3 hown3 hgrow3; have hb3 := OwI.below (w0 := V) (by exact HO2.out.alloc _) (by exact HB2.out.alloc HB2.out.size _) hgrow3 (by exact le_alloc HB2.out.size _); have HB3 := Lib.hid hb3; have HO3 := Lib.hid hown3; clear hown3 hgrow3 hb3)
      go_roundw
      case rel => exact ⟨k + 1, by omega, by go_num, Lib.hid (by rw [HNX.out]; exact HO3.out), HB3⟩
      case measure => simp [intOf]; omega
    · have hki : ¬ (k : Int) < (n : Int) := by omega
      have HRT := Lib.hid (show (keysF l).take k = R by
        rw [HR.out]
        exact List.take_of_length_le (by rw [keysF_length]; have := HN.out; omega))
      have HRL := Lib.hid (show R.length = n by rw [HR.out, keysF_length, HN.out])
      rw [HRT.out] at HO
      obtain ⟨A3, c3, rfl, q1, q2, q3⟩ := HO.out.form
      have HQ3 := Lib.hid q3
      have HF := Lib.hid (show R.length ≤ c3 ∧ c3 ≤ 9223372036854775807 from ⟨q1, q2⟩)
      rw [HRL.out]
      clear q1 q2 q3 HO HRT
      go_wp2
      go_ret
      exact ⟨⟨A3, c3, rfl, by rw [← HRL.out]; exact HF.out.1, HF.out.2, HQ3.out⟩, belG HB.out HBV.out HB.out.size⟩
end Go.Proofs.YtpfjecjfooefoaaDoor
/- Package iso: Right, Write. -/

namespace Go.Proofs.YtpfjecjfooefoaaDoor
open Go.RowKit

set_option maxRecDepth 100000 in
theorem rightM_rise {t : Int} {l : List Fl} : RightM t l ↔ typeF t = true ∧ RiseP l ∧ ∀ j (h : j < l.length), fitsF l[j].1 l[j].2 = true :=
  ⟨fun h => ⟨h.1, fun j hj h0 => (h.2 j hj).2 h0, fun j hj => (h.2 j hj).1⟩, fun h => ⟨h.1, fun j hj => ⟨h.2.2 j hj, fun h0 => h.2.1 j hj h0⟩⟩⟩

set_option maxRecDepth 100000 in
set_option maxHeartbeats 4000000 in
theorem iRight_any (t : Int) (A : Option Addr) (l : List Fl) (c : Nat) (W : World) (ht : I64b t) (hk : OkM l) (_hc : l.length ≤ c) (_hcm : c ≤ 9223372036854775807) (hr : RdF W W.heap.size A l) (hT : Tb W) :
    Calls Tryd.prog 18 #[.agg #[.int .i64 t, .slice A l.length c]] W fun e W' => e = .returned (.bool (decide (RightM t l))) ∧ Below W.heap.size W W' := by
  obtain ⟨R, hR⟩ : ∃ R, R = decide (RightM t l) := ⟨_, rfl⟩
  rw [← hR]
  have HR := Lib.hid hR
  have HSM := Lib.hid hk.small
  have hl : l.length ≤ 200 := hk.len
  have CT := Lib.hid (fun w => iType_is t ht w)
  have CR := Lib.hid (fun w (h : RdF w w.heap.size A l) => rise_any A l c w (by omega) h)
  obtain ⟨n, hn⟩ : ∃ n, n = l.length := ⟨_, rfl⟩
  have HN := Lib.hid hn
  rw [← hn] at hl CR ⊢
  have CF := Lib.hid (fun w => fields_any t A n c w)
  have hb := (Below.refl W.heap.size W).alloc (Nat.le_refl _) (.cells #[.int .i64 t, .slice A n c] 24)
  have hg := heap_alloc_new W (.cells #[.int .i64 t, .slice A n c] 24)
  obtain ⟨V, hV⟩ : ∃ V, V = W.alloc (.cells #[.int .i64 t, .slice A n c] 24) := ⟨_, rfl⟩
  rw [← hV] at hb hg
  have RA := Lib.hid (fun w (h : Below V.heap.size V w) => ((hr.below hb (Nat.le_refl _)).more hb.size).go h)
  have TA := Lib.hid (fun w (h : Below V.heap.size V w) => (hT.below hb).below h)
  have HG := Lib.hid hg
  have HB := Lib.hid hb
  have HV := Lib.hid hV
  clear hR hn hb hg hr hT hk _hc _hcm
  obtain ⟨e0, e1⟩ := cG2 HG.out
  rw [hV] at e0 e1
  clear hV
  by_cases hty : typeF t = true
  case neg =>
    have HRF := Lib.hid (show R = false by rw [HR.out]; exact decide_eq_false (fun h => hty h.1))
    rw [show typeF t = false by simpa using hty] at CT
    clear hty CR CF RA TA HR
    go_enter Tryd.func18, Tryd.ntmps18
    go_wp2_with fail
    refine (CT.out _).mono ?_
    rintro e w1 ⟨rfl, rfl⟩
    go_wp2
    go_ret
    exact ⟨by rw [HRF.out]; rfl, by rw [← HV.out]; exact HB.out⟩
  case pos =>
  rw [hty] at CT
  have HTY := Lib.hid hty
  clear hty
  by_cases hri : RiseP l
  case neg =>
    have HRF := Lib.hid (show R = false by rw [HR.out]; exact decide_eq_false (fun h => hri (rightM_rise.1 h).2.1))
    rw [decide_eq_false hri] at CR
    clear hri TA HR
    go_enter Tryd.func18, Tryd.ntmps18
    go_wp2_with fail
    refine (CT.out _).mono ?_
    rintro e w1 ⟨rfl, rfl⟩
    go_wp2_with fail
    rw [← HV.out]
    rw [← HV.out] at e0 e1
    refine (CF.out _).mono ?_
    rintro e w1 ⟨rfl, hb⟩
    have HB1 := Lib.hid hb
    clear hb HV
    go_wp2_with fail
    refine (CR.out _ (RA.out _ HB1.out)).mono ?_
    rintro e w2 ⟨rfl, hb⟩
    have HB2 := Lib.hid (belG HB1.out hb HB1.out.size)
    clear hb
    go_wp2
    go_ret
    exact ⟨by rw [HRF.out]; rfl, belG HB.out HB2.out HB.out.size⟩
  case pos =>
  rw [decide_eq_true hri] at CR
  have HRI := Lib.hid hri
  clear hri
  go_enter Tryd.func18, Tryd.ntmps18
  go_wp2_with fail
  refine (CT.out _).mono ?_
  rintro e w1 ⟨rfl, rfl⟩
  go_wp2_with fail
  rw [← HV.out]
  rw [← HV.out] at e0 e1
  refine (CF.out _).mono ?_
  rintro e w1 ⟨rfl, hb⟩
  have HB1 := Lib.hid hb
  clear hb HV
  go_wp2_with fail
  refine (CR.out _ (RA.out _ HB1.out)).mono ?_
  rintro e w2 ⟨rfl, hb⟩
  have HB2 := Lib.hid (belG HB1.out hb HB1.out.size)
  clear hb HB1 CR CF CT e0 e1
  obtain ⟨e0, e1⟩ := cG2 (oldG HG.out HB2.out (Nat.le_refl _))
  go_wp2
  clear e0 e1
  go_loopw [18] (fun i wr => ∃ k : Nat, k ≤ n ∧ i = .int .i64 k ∧ Hid (∀ j (h : j < l.length), j < k → fitsF l[j].1 l[j].2 = true) ∧ Hid (Below V.heap.size V wr)) (fun i _ => n - (intOf i).toNat)
  case atStart => exact ⟨0, Nat.zero_le _, rfl, Lib.hid (fun j h h1 => absurd h1 (by omega)), HB2⟩
  case round =>
    obtain ⟨k, hkn, rfl, HT, HBV⟩ := hrel
    by_cases hlt : k < n
    · have hk2 : k < l.length := by rw [← HN.out]; exact hlt
      obtain ⟨b1, o1, A1, c1, rfl, hb1, x1, y1, q1, q2, q3⟩ := (RA.out _ HBV.out).at_ hk2
      have hal := (Below.refl wr.heap.size wr).alloc (Nat.le_refl _) (.cells #[.int .i64 l[k].1, .slice A1 l[k].2.length c1] 60)
      have CFI := Lib.hid (fFits_any l[k].1 A1 l[k].2 c1 (wr.alloc (.cells #[.int .i64 l[k].1, .slice A1 l[k].2.length c1] 60)) (HSM.out _ (List.getElem_mem _)) (q3.go hal) ((TA.out _ HBV.out).below hal))
      have HB3 := Lib.hid (belG HBV.out hal HBV.out.size)
      have HNE := Lib.hid (show fitsF l[k].1 l[k].2 = false → R = false from fun h => by
        rw [HR.out]
        exact decide_eq_false (fun h1 => by rw [(h1.2 k hk2).1] at h; exact absurd h (by decide)))
      have HTN := Lib.hid (show fitsF l[k].1 l[k].2 = true → ∀ j (h : j < l.length), j < k + 1 → fitsF l[j].1 l[j].2 = true from fun h j hj h1 => by
        by_cases e : j = k
        · subst e; exact h
        · exact HT.out j hj (by omega))
      obtain ⟨f0, f1⟩ := cG2 (heap_alloc_new wr (.cells #[.int .i64 l[k].1, .slice A1 l[k].2.length c1] 60))
      generalize fitsF l[k].1 l[k].2 = F at *
      generalize l[k].1 = xk at *
      generalize l[k].2.length = z1 at *
      clear hal q1 q2 q3 HT hk2 hb1
      have hki : (k : Int) < (n : Int) := by omega
      have hk0 : (0 : Int) ≤ (k : Int) := Int.natCast_nonneg _
      cases F with
      | false =>
        have HRF := Lib.hid (HNE.out rfl)
        clear HNE HTN
        go_wp2_with fail
        refine CFI.out.mono ?_
        rintro e w3 ⟨rfl, hb⟩
        have HB4 := Lib.hid (belG HB3.out hb HB3.out.size)
        clear hb CFI f0 f1 x1 y1
        go_wp2
        go_ret
        exact ⟨by rw [HRF.out]; rfl, belG HB.out HB4.out HB.out.size⟩
      | true =>
        have HTQ := Lib.hid (HTN.out rfl)
        clear HNE HTN
        go_wp2_with fail
        refine CFI.out.mono ?_
        rintro e w3 ⟨rfl, hb⟩
        have HB4 := Lib.hid (belG HB3.out hb HB3.out.size)
        clear hb CFI f0 f1 x1 y1
        go_wp2
        go_roundw
        case rel => exact ⟨k + 1, by omega, by go_num, HTQ, HB4⟩
        case measure => simp [intOf]; omega
    · have hki : ¬ (k : Int) < (n : Int) := by omega
      have HRT := Lib.hid (show R = true by
        rw [HR.out]
        exact decide_eq_true (rightM_rise.2 ⟨HTY.out, HRI.out, fun j hj => HT.out j hj (by have := HN.out; omega)⟩))
      clear HT
      go_wp2
      go_ret
      exact ⟨by rw [HRT.out]; rfl, belG HB.out HBV.out HB.out.size⟩
set_option maxRecDepth 100000 in
theorem Ow.base {w : World} {B B' : Nat} {v : Value} {l : List UInt8} (h : Ow w B v l) (hB : B' ≤ B) : Ow w B' v l := by
  refine ⟨h.1, ?_⟩
  rcases h.2 with h0 | ⟨g, cap, cur, e, hbg, hr⟩
  · exact .inl h0
  · exact .inr ⟨g, cap, cur, e, Nat.le_trans hB hbg, hr⟩
set_option maxRecDepth 100000 in
theorem Ow.callW {w w' : World} {B : Nat} {v : Value} {l : List UInt8} (h : Ow w B v l) (hb : Below w.heap.size w w') : Ow w' B v l := by
  refine ⟨h.1, ?_⟩
  rcases h.2 with h0 | ⟨g, cap, cur, e, hbg, hg, hr⟩
  · exact .inl h0
  · exact .inr ⟨g, cap, cur, e, hbg, oldG hg hb (Nat.le_refl _), hr⟩
/-- an answer: bytes, in a row of the call's own (from block B on) -/
def AnsOwB (B : Nat) (W' : World) (e : Ending) (l : List UInt8) : Prop := ∃ v, e = .returned v ∧ Ow W' B v l
set_option maxRecDepth 100000 in
set_option maxHeartbeats 1000000 in
theorem concatB_any (g : Nat) (A B : Option Addr) (us vs : List UInt8) (n m c d : Nat) (w : World) (hn : n = us.length) (hm : m = vs.length) (h0 : 0 < n + m) (hle : n ≤ 10000) (hle2 : m ≤ 10000)
    (hg : w.heap[g]? = some (.cells #[.slice A n c, .slice B m d] 27 (0, 0))) (hr : Rd w w.heap.size A us) (hs : Rd w w.heap.size B vs) :
    Calls Tryd.prog 40 #[.slice (some ⟨g, 0, none⟩) 2 2] w fun e w' => AnsOwB w.heap.size w' e (us ++ vs) ∧ Below w.heap.size w w' := by
  have RG := Lib.hid (fun w' (h : Below w.heap.size w w') => oldG hg h (Nat.le_refl _))
  have R0 := Lib.hid (fun w' (h : Below w.heap.size w w') => (cG2 (RG.out w' h)).1)
  have R1 := Lib.hid (fun w' (h : Below w.heap.size w w') => (cG2 (RG.out w' h)).2)
  have RA := Lib.hid (fun w' (h : Below w.heap.size w w') => hr.below h (Nat.le_refl _))
  have RB := Lib.hid (fun w' (h : Below w.heap.size w w') => hs.below h (Nat.le_refl _))
  have HN := Lib.hid hn
  have HM := Lib.hid hm
  have CG := Lib.hid (grow5_any (n + m) h0 (by omega) w)
  have c0 := R0.out w (Below.refl _ _)
  have c1 := R1.out w (Below.refl _ _)
  have hn0 : ¬ (n : Int) < 0 := by omega
  have hn1 : ¬ (n : Int) + (m : Int) < 0 := by omega
  have e1 : ((n + m : Nat) : Int) = (n : Int) + (m : Int) := by omega
  rw [e1] at CG
  clear hg hr hs hn hm e1
  go_enter Tryd.func40, Tryd.ntmps40
  go_wp2
  refine wp_loop_rounds 3 ?_
  rw [rounds_succ]
  go_wp2
  rw [rounds_succ]
  go_wp2
  rw [rounds_succ]
  go_wp2_with fail
  refine CG.out.mono ?_
  rintro e w1 ⟨⟨q, cap, rfl, ho⟩, hb⟩
  have HO := Lib.hid ho
  have HB := Lib.hid hb
  have k0 := R0.out _ hb
  clear ho hb c0 c1
  go_wp2_with fail
  refine wp_loop_rounds 3 ?_
  rw [rounds_succ]
  go_wp2_with (at_builtin; (refine wpList_appS w1 rfl (.tmp 31) (.tmp 32) rfl w.heap.size _ [] us rfl HO.out A n c w.heap.size rfl HN.out (by exact RA.out _ HB.out) (by rw [← HN.out]; simp only [List.length_nil]; omega) HB.out.size ?_); intro v2 w2 hown2 hgrow2; have HB2 := Lib.hid (Ow.below (w0 := w) HO.out HB.out hgrow2 HB.out.size); rw [List.nil_append] at hown2; have HO2 := Lib.hid hown2; obtain ⟨Au, cu, eu, hu1, hu2, hu3⟩ := hown2.form; rw [← HN.out] at eu; subst eu; have k1 := R1.out _ HB2.out; clear hown2 hgrow2 hu3 hu1)
  rw [rounds_succ]
  go_wp2_with (at_builtin; (refine wpList_appS w2 rfl (.tmp 31) (.tmp 32) rfl w.heap.size _ us vs rfl HO2.out B m d w.heap.size rfl HM.out (by exact RB.out _ HB2.out) (by rw [← HN.out, ← HM.out]; omega) HB2.out.size ?_); intro v3 w3 hown3 hgrow3; have HB3 := Lib.hid (Ow.below (w0 := w) HO2.out HB2.out hgrow3 HB2.out.size); have HO3 := Lib.hid hown3; clear hown3 hgrow3)
  rw [rounds_succ]
  go_wp2_with fail
  go_ret
  exact ⟨⟨v3, rfl, HO3.out⟩, HB3.out⟩
set_option maxRecDepth 100000 in
theorem concatB2_any (A B : Option Addr) (us vs : List UInt8) (n m c d : Nat) (w : World) (hn : n = us.length) (hm : m = vs.length) (h0 : 0 < n + m) (hle : n ≤ 10000) (hle2 : m ≤ 10000) (hr : Rd w w.heap.size A us) (hs : Rd w w.heap.size B vs) :
    Calls Tryd.prog 40 #[.slice (some ⟨w.heap.size, 0, none⟩) 2 2] (w.alloc (.cells #[.slice A n c, .slice B m d] 27)) fun e w' => AnsOwB w.heap.size w' e (us ++ vs) ∧ Below w.heap.size w w' := by
  have ha := (Below.refl w.heap.size w).alloc (Nat.le_refl _) (.cells #[.slice A n c, .slice B m d] 27)
  refine (concatB_any w.heap.size A B us vs n m c d _ hn hm h0 hle hle2 (heap_alloc_new w _) (hr.go ha) (hs.go ha)).mono fun e w' h => ⟨?_, belG ha h.2 ha.size⟩
  obtain ⟨v, e1, h1⟩ := h.1
  exact ⟨v, e1, h1.base ha.size⟩

set_option maxRecDepth 100000 in
set_option maxHeartbeats 4000000 in
theorem iWrite_any (t : Int) (A : Option Addr) (l : List Fl) (c : Nat) (W : World) (ht : I64b t) (hk : OkM l) (hc : l.length ≤ c) (hcm : c ≤ 9223372036854775807) (hr : RdF W W.heap.size A l) (hT : Tb W) :
    Calls Tryd.prog 13 #[.agg #[.int .i64 t, .slice A l.length c]] W fun e W' => Ans W' e (isoW t l) (isoW t l).length (.int .i64 (isoE t l)) ∧ Below W.heap.size W W' := by
  obtain ⟨R, hR⟩ : ∃ R, R = isoW t l := ⟨_, rfl⟩
  obtain ⟨E, hE⟩ : ∃ E, E = isoE t l := ⟨_, rfl⟩
  rw [← hR, ← hE]
  have HR := Lib.hid hR
  have HE := Lib.hid hE
  have hb := (Below.refl W.heap.size W).alloc (Nat.le_refl _) (.cells #[.int .i64 t, .slice A l.length c] 24)
  have hg := heap_alloc_new W (.cells #[.int .i64 t, .slice A l.length c] 24)
  have CR := Lib.hid (iRight_any t A l c _ ht hk hc hcm (hr.go hb) (hT.below hb))
  have CNU := Lib.hid (fun w (h : RdF w w.heap.size A l) => numbers_any A l c w (by have := hk.len; omega) h)
  obtain ⟨n, hn⟩ : ∃ n, n = l.length := ⟨_, rfl⟩
  have HN := Lib.hid hn
  have hn200 : n ≤ 200 := by rw [hn]; exact hk.len
  rw [← hn] at hb hg CR CNU ⊢
  obtain ⟨V, hV⟩ : ∃ V, V = W.alloc (.cells #[.int .i64 t, .slice A n c] 24) := ⟨_, rfl⟩
  rw [← hV] at hb hg CR
  have RA := Lib.hid (fun w (h : Below V.heap.size V w) => (hr.go hb).go h)
  have TA := Lib.hid (fun w (h : Below V.heap.size V w) => (hT.below hb).below h)
  have HG := Lib.hid hg
  have HB := Lib.hid hb
  have HV := Lib.hid hV
  have CF := Lib.hid (fun w => fields_any t A n c w)
  have HK := Lib.hid hk
  clear hR hE hn hb hg hr hT hk hc hcm
  obtain ⟨e0, e1⟩ := cG2 HG.out
  rw [hV] at e0 e1
  clear hV
  by_cases hri : ¬ RightM t l
  · have HRE := Lib.hid (show R = [] ∧ E = 1 from ⟨HR.out.trans (if_neg hri), HE.out.trans (if_neg hri)⟩)
    rw [decide_eq_false hri] at CR
    clear hri HR HE CNU CF RA TA
    go_enter Tryd.func13, Tryd.ntmps13
    go_wp2_with fail
    rw [← HV.out]
    refine CR.out.mono ?_
    rintro e w1 ⟨rfl, hb⟩
    have HB1 := Lib.hid (belG HB.out hb HB.out.size)
    clear hb CR
    go_wp2
    go_ret2
    exact ⟨by rw [HRE.out.1, HRE.out.2]; exact AnsG.none, HB1.out⟩
  have hri : RightM t l := Classical.byContradiction hri
  have HRE := Lib.hid (show R = isoM t l ∧ E = 0 from ⟨HR.out.trans (if_pos hri), HE.out.trans (if_pos hri)⟩)
  rw [decide_eq_true hri] at CR
  obtain ⟨h0, h9, -⟩ := typeF_bd hri.1
  obtain ⟨m, rfl⟩ := Int.eq_ofNat_of_zero_le (show 0 ≤ t by omega)
  have CD := Lib.hid (fun w => (show Calls Tryd.prog 35 #[.int .i64 (m : Int), .int .i64 4] w fun e W' => e = .returned (.tuple #[.string ⟨(dgL 48 10 m 4).toArray⟩, .int .i64 0]) ∧ Below w.heap.size w W' from by
    have h := digits_any m 4 w (by omega) (by omega) (by omega)
    unfold digitsV at h
    rw [if_pos (show m < 10 ^ 4 by omega)] at h
    exact h))
  have hsl : (dgL 48 10 m 4).length = 4 := dgL_length _ _ _ _
  have CB := Lib.hid (fun w => bcdf_any (dgL 48 10 m 4) (dgL_fig m 4) (by rw [hsl]; omega) w)
  have HT4 := Lib.hid (show (packL gFig (dgL 48 10 m 4)).length = 2 by rw [packL_length, hsl])
  have HRES := Lib.hid (show isoM (m : Int) l = packL gFig (dgL 48 10 m 4) ++ bmW (keysF l) ++ valsF l by unfold isoM; rw [Int.toNat_natCast])
  have hkl : (keysF l).length = n := by rw [keysF_length, HN.out]
  have CW := Lib.hid (fun AL cL w (h : RdI w w.heap.size AL (keysF l)) => bWrite_any AL (keysF l) cL w (by rw [hkl]; have := HK.out.len; have := HN.out; omega) (fun z hz => by
    unfold keysF at hz
    obtain ⟨x, hx, rfl⟩ := List.mem_map.1 hz
    exact HK.out.i64 x hx) h)
  rw [hkl] at CW
  have HBS := Lib.hid (bmW_small (keysF l))
  have HVS := Lib.hid (fun k => Nat.le_trans (valsF_small (l.take k) (fun x hx => (rightM_iff.1 hri).2.1 x (List.mem_of_mem_take hx))) (show 1000 * (l.take k).length ≤ 200000 by rw [List.length_take]; have := HK.out.len; omega))
  have HWS := Lib.hid (fun k (h : k < l.length) => writeL_small (hri.2 k h).1)
  clear hri HR HE h0 h9 hsl hkl
  generalize packL gFig (dgL 48 10 m 4) = T4 at *
  generalize (⟨(dgL 48 10 m 4).toArray⟩ : ByteArray) = S4 at *
  generalize keysF l = K at *
  obtain ⟨T5, hT5⟩ : ∃ T5, T5 = bmW K := ⟨_, rfl⟩
  rw [← hT5] at CW HBS HRES
  generalize bmE K = KE at *
  have CX := Lib.hid (fun (A1 A2 : Option Addr) c1 c2 w h1 h2 => concatB2_any A1 A2 T4 T5 T4.length T5.length c1 c2 w rfl rfl (by rw [HT4.out]; omega) (by rw [HT4.out]; omega) (by have := HBS.out; omega) h1 h2)
  obtain ⟨p, hp⟩ : ∃ p, p = T4.length := ⟨_, rfl⟩
  obtain ⟨q, hq⟩ : ∃ q, q = T5.length := ⟨_, rfl⟩
  have HL5 := Lib.hid (show (T4 ++ T5).length ≤ 20 by rw [List.length_append, HT4.out]; have := HBS.out; omega)
  rw [← hp] at CB CX
  rw [← hq] at CW CX
  clear hT5 hp hq HT4 HBS
  go_enter Tryd.func13, Tryd.ntmps13
  go_wp2_with fail
  rw [← HV.out]
  rw [← HV.out] at e0 e1
  clear HV
  refine CR.out.mono ?_
  rintro e w1 ⟨rfl, hb⟩
  have HB1 := Lib.hid hb
  clear hb CR e0 e1
  obtain ⟨e0, e1⟩ := cG2 (oldG HG.out HB1.out (Nat.le_refl _))
  go_wp2_with fail
  refine (CD.out _).mono ?_
  rintro e w2 ⟨rfl, hb⟩
  have HB2 := Lib.hid (belG HB1.out hb HB1.out.size)
  clear hb CD e0 e1 HB1
  go_wp2_with fail
  refine (CB.out _).mono ?_
  rintro e w3 ⟨⟨A4, c4, rfl, -, -, a3⟩, hb⟩
  have HB3 := Lib.hid (belG HB2.out hb HB2.out.size)
  have R3 := Lib.hid (fun w (h : Below w3.heap.size w3 w) => a3.go h)
  clear hb CB a3 HB2
  obtain ⟨e0, e1⟩ := cG2 (oldG HG.out HB3.out (Nat.le_refl _))
  go_wp2_with fail
  refine (CF.out _).mono ?_
  rintro e w4 ⟨rfl, hb⟩
  have HB4 := Lib.hid hb
  clear hb CF e0 e1
  go_wp2_with fail
  refine (CNU.out _ (RA.out _ (belG HB3.out HB4.out HB3.out.size))).mono ?_
  rintro e w5 ⟨⟨A5, c5, rfl, -, -, a3⟩, hb⟩
  have HB5 := Lib.hid (belG HB4.out hb HB4.out.size)
  have R5 := Lib.hid a3
  clear hb CNU a3 HB4
  go_wp2_with fail
  refine (CW.out A5 c5 _ R5.out).mono ?_
  rintro e w6 ⟨⟨A6, c6, rfl, -, -, a3⟩, hb⟩
  have HB6 := Lib.hid (belG HB5.out hb HB5.out.size)
  have R6 := Lib.hid a3
  clear hb CW a3 HB5 R5
  go_wp2_with fail
  refine (CX.out A4 A6 c4 c6 _ (R3.out _ HB6.out) R6.out).mono ?_
  rintro e w7 ⟨⟨v7, rfl, ho⟩, hb⟩
  have HB7 := Lib.hid (belG HB3.out (belG HB6.out hb HB6.out.size) HB3.out.size)
  have HO7 := Lib.hid (ho.base (show V.heap.size ≤ _ from Nat.le_trans HB3.out.size HB6.out.size))
  clear hb CX ho HB6 R6 R3 HB3
  obtain ⟨e0, e1⟩ := cG2 (oldG HG.out HB7.out (Nat.le_refl _))
  go_wp2
  clear e0 e1
  go_loopw [43, 10] (fun i v wr => ∃ k : Nat, k ≤ n ∧ i = .int .i64 k ∧ Hid (Ow wr V.heap.size v (T4 ++ T5 ++ valsF (l.take k))) ∧ Hid (Below V.heap.size V wr)) (fun i _ _ => n - (intOf i).toNat)
  case atStart => exact ⟨0, Nat.zero_le _, rfl, Lib.hid (by rw [List.take_zero]; show Ow _ _ _ (T4 ++ T5 ++ []); rw [List.append_nil]; exact HO7.out), HB7⟩
  case round =>
    obtain ⟨k, hkn, rfl, HO, HBV⟩ := hrel
    by_cases hlt : k < n
    · have hk2 : k < l.length := by rw [← HN.out]; exact hlt
      obtain ⟨b1, o1, A1, c1, rfl, hb1, x1, y1, q1, q2, q3⟩ := (RA.out _ HBV.out).at_ hk2
      have hal := (Below.refl wr.heap.size wr).alloc (Nat.le_refl _) (.cells #[.int .i64 l[k].1, .slice A1 l[k].2.length c1] 60)
      have CFI := Lib.hid (fWrite_any l[k].1 A1 l[k].2 c1 (wr.alloc (.cells #[.int .i64 l[k].1, .slice A1 l[k].2.length c1] 60)) (HK.out.small _ (List.getElem_mem _)) q1 q2 (q3.go hal) ((TA.out _ HBV.out).below hal))
      have HNX := Lib.hid (valsF_next l k hk2)
      have HWK := Lib.hid (HWS.out k hk2)
      have HB3 := Lib.hid (belG HBV.out hal HBV.out.size)
      have HO3 := Lib.hid (HO.out.callW hal)
      obtain ⟨f0, f1⟩ := cG2 (heap_alloc_new wr (.cells #[.int .i64 l[k].1, .slice A1 l[k].2.length c1] 60))
      obtain ⟨P, hP⟩ : ∃ P, P = T4 ++ T5 ++ valsF (l.take k) := ⟨_, rfl⟩
      have HPL := Lib.hid (show P.length ≤ 300000 by rw [hP, List.length_append]; have := HL5.out; have := HVS.out k; omega)
      have HPN := Lib.hid (show T4 ++ T5 ++ valsF (l.take (k + 1)) = P ++ writeL l[k].1 l[k].2 by rw [HNX.out, hP, List.append_assoc (T4 ++ T5)])
      rw [← hP] at HO3
      obtain ⟨Wk, hWk⟩ : ∃ X, X = writeL l[k].1 l[k].2 := ⟨_, rfl⟩
      rw [← hWk] at CFI HPN HWK
      generalize writeE l[k].1 l[k].2 = EK at *
      generalize l[k].1 = xk at *
      generalize l[k].2.length = z1 at *
      obtain ⟨z2, hz2⟩ : ∃ z, z = Wk.length := ⟨_, rfl⟩
      rw [← hz2] at CFI
      have HZ2 := Lib.hid hz2
      clear hal q1 q2 q3 hk2 hb1 HO hP hWk HNX hz2
      have hki : (k : Int) < (n : Int) := by omega
      have hk0 : (0 : Int) ≤ (k : Int) := Int.natCast_nonneg _
      go_wp2_with fail
      refine CFI.out.mono ?_
      rintro e w3 ⟨⟨A9, c9, rfl, -, -, a3⟩, hb⟩
      have HB4 := Lib.hid (belG HB3.out hb HB3.out.size)
      have HO4 := Lib.hid (HO3.out.callW hb)
      have R9 := Lib.hid a3
      clear hb CFI f0 f1 x1 y1 a3 HB3 HO3
      go_wp2_with (at_builtin; (refine wpList_appS w3 rfl (.tmp 55) (.tmp 56) rfl V.heap.size _ P Wk rfl HO4.out A9 z2 c9 w3.heap.size rfl HZ2.out R9.out (by have := HPL.out; have := HWK.out; omega) HB4.out.size ?_); intro v5 w5 hown5 hgrow5; have HB5 := Lib.hid (Ow.below (w0 := V) HO4.out HB4.out hgrow5 HB4.out.size); have HO5 := Lib.hid hown5; clear hown5 hgrow5)
      go_roundw
      case rel => exact ⟨k + 1, by omega, by go_num, Lib.hid (by rw [HPN.out]; exact HO5.out), HB5⟩
      case measure => simp [intOf]; omega
    · have hki : ¬ (k : Int) < (n : Int) := by omega
      have HRT := Lib.hid (show T4 ++ T5 ++ valsF (l.take k) = R by
        rw [HRE.out.1, HRES.out, List.take_of_length_le (by have := HN.out; omega)])
      rw [HRT.out] at HO
      obtain ⟨A9, c9, e9, q1, q2, q3⟩ := HO.out.form
      subst e9
      have HQ := Lib.hid (show R.length ≤ c9 ∧ c9 ≤ 9223372036854775807 ∧ Rd wr wr.heap.size A9 R from ⟨q1, q2, q3⟩)
      clear q1 q2 q3
      go_wp2
      go_ret2
      exact ⟨by rw [HRE.out.2]; exact ⟨A9, c9, rfl, HQ.out.1, HQ.out.2.1, HQ.out.2.2⟩, belG HB.out HBV.out HB.out.size⟩
end Go.Proofs.YtpfjecjfooefoaaDoor
