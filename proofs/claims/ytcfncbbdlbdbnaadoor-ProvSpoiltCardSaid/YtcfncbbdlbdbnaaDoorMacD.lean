
/- The document's Block. -/
import Derived.Test.YtcfncbbdlbdbnaaDoorMacA
import Derived.Test.YtcfncbbdlbdbnaaDoorRefOf
namespace Go.Proofs.YtcfncbbdlbdbnaaDoor
open Go.RowKit

def lenV : Value → Nat
  | .slice _ n _ => n
  | _ => 0
theorem news0 (w : World) : ∀ j u, (cs [0])[j]? = some u → (w.alloc (.cells #[.int .u8 0] 5)).cell? ((⟨w.heap.size, 0, none⟩ : Addr).add j) = some u := news1 w 0 (by decide) (by decide)
theorem pad_next (P : List UInt8) (n : Nat) (h : P.length ≤ n) : (P ++ List.replicate (n - P.length) 0) ++ [0] = P ++ List.replicate (n + 1 - P.length) 0 := by
  rw [List.append_assoc]
  congr 1
  rw [show n + 1 - P.length = (n - P.length) + 1 by omega, List.replicate_succ']

set_option maxRecDepth 100000 in
set_option maxHeartbeats 1000000 in
theorem refBlockK_any (A : Option Addr) (l : List UInt8) (c : Nat) (w : World) (hl : l.length ≤ 100000) (hc : l.length ≤ c) (hr : Rd w w.heap.size A l) :
    Calls Tryd.prog 38 #[.slice A l.length c] w fun e w' => AnsO w.heap.size w' e (blkK l) ∧ Below w.heap.size w w' := by
  have RB := Lib.hid (fun w' (h : Below w.heap.size w w') => (hr.below h (Nat.le_refl _)).more h.size)
  have HM := Lib.hid (Ow.made0 w (Nat.le_refl w.heap.size))
  have HB0 := Lib.hid ((Below.refl w.heap.size w).alloc (Nat.le_refl _) (.cells #[] 5))
  have hsz0 : w.heap.size ≤ (w.alloc (.cells #[] 5)).heap.size := by rw [World.size_alloc]; omega
  have HSZ := Lib.hid hsz0
  clear hsz0
  by_cases h64 : 64 < l.length
  · have HO := Lib.hid (fun W h1 => refOf_own A l c W hl hc h1)
    have HE := Lib.hid (show blkK l = ofF l ++ List.replicate (64 - (ofF l).length) 0 by unfold blkK; rw [if_pos h64])
    have HP := Lib.hid (show (ofF l).length ≤ 64 by rw [ofF_len]; omega)
    rw [HE.out]
    generalize ofF l = P at *
    obtain ⟨n, hn⟩ : ∃ n, n = l.length := ⟨_, rfl⟩
    have HN := Lib.hid hn
    rw [← hn] at h64 HO hl ⊢
    have h64i : (64 : Int) < (n : Int) := by omega
    clear hr hn hc HE
    go_enter Tryd.func38, Tryd.ntmps38
    go_wp2_with (at_builtin; refine wpList_appS (w.alloc (.cells #[] 5)) rfl (.tmp 4) (.tmp 5) rfl w.heap.size _ [] l rfl (by exact HM.out) A n c _ rfl HN.out (by exact RB.out _ HB0.out) (by simp only [List.length_nil]; have := HN.out; omega) HSZ.out ?_; intro v1 w1 hown1 hgrow1; have HB1 := Lib.hid (Ow.below (w0 := w) HM.out HB0.out hgrow1 HSZ.out); rw [List.nil_append] at hown1; have HO1 := Lib.hid hown1; clear hown1 hgrow1)
    clear HO1
    refine (HO.out _ (RB.out _ HB1.out)).mono ?_
    rintro e w2 ⟨⟨v2, rfl, h2⟩, hb2⟩
    have HO2 := Lib.hid (h2.base HB1.out.size)
    have HB2 := Lib.hid (HB1.out.trans (hb2.mono HB1.out.size))
    clear h2 hb2 HB1 HO RB HM HB0 HSZ
    go_wp2_with fail
    go_loopw [3] (fun v wr => ∃ (j : Nat) (A' : Option Addr) (c' : Nat), v = .slice A' j c' ∧ P.length ≤ j ∧ j ≤ 64 ∧ Ow wr w.heap.size v (P ++ List.replicate (j - P.length) 0) ∧ Below w.heap.size w wr) (fun v _ => 64 - lenV v)
    case atStart =>
      obtain ⟨A', c', e, h1, h2, h3⟩ := HO2.out.form
      exact ⟨P.length, A', c', e, Nat.le_refl _, HP.out, by rw [Nat.sub_self]; simpa using HO2.out, HB2.out⟩
    case round =>
      clear HO2 HB2
      obtain ⟨j, A', c', rfl, hj1, hj2, hown, hbel⟩ := hrel
      have HO := Lib.hid hown
      have HB := Lib.hid hbel
      have hsz := HB.out.size
      clear hown hbel
      by_cases hlt : j < 64
      · have hlti : (j : Int) < 64 := by omega
        have HN1 := Lib.hid (pad_next P j hj1)
        have HLN := Lib.hid (show (P ++ List.replicate (j - P.length) (0 : UInt8)).length = j by rw [List.length_append, List.length_replicate]; omega)
        go_wp2_with (at_builtin; (refine wpList_app rfl _ (.tmp 15) (.tmp 16) rfl w.heap.size _ _ [0] rfl (by exact HO.out.alloc _) ⟨_, 0, none⟩ 1 _ rfl rfl (by exact news0 _) (by rw [HLN.out]; simp only [List.length_cons, List.length_nil]; omega) (by exact le_alloc hsz _) ?_); intro v2 w2 hown2 hgrow2; have HB3 := Lib.hid (Ow.below (w0 := w) (by exact HO.out.alloc _) (by exact HB.out.alloc hsz _) hgrow2 (by exact le_alloc hsz _)); rw [HN1.out] at hown2; have HW2 := Lib.hid hown2; clear hgrow2 hown2)
        obtain ⟨A'', c'', e, h1, h2, h3⟩ := HW2.out.form
        have HLN1 := Lib.hid (show (P ++ List.replicate (j + 1 - P.length) (0 : UInt8)).length = j + 1 by rw [List.length_append, List.length_replicate]; omega)
        rw [HLN1.out] at e
        subst e
        clear h1 h2 h3
        go_roundw
        case rel => exact ⟨j + 1, A'', c'', rfl, by omega, by omega, HW2.out, HB3.out⟩
        case measure => simp [lenV]; omega
      · have hj : j = 64 := by omega
        subst hj
        go_wp2
        go_ret
        exact ⟨⟨_, rfl, HO.out⟩, HB.out⟩
  · have HE := Lib.hid (show blkK l = l ++ List.replicate (64 - l.length) 0 by unfold blkK; rw [if_neg h64])
    have HP := Lib.hid (show l.length ≤ 64 by omega)
    rw [HE.out]
    obtain ⟨n, hn⟩ : ∃ n, n = l.length := ⟨_, rfl⟩
    have HN := Lib.hid hn
    rw [← hn] at h64 hl
    have h64i : ¬ (64 : Int) < (n : Int) := by omega
    rw [← hn]
    clear hr hn hc HE
    go_enter Tryd.func38, Tryd.ntmps38
    go_wp2_with (at_builtin; refine wpList_appS (w.alloc (.cells #[] 5)) rfl (.tmp 4) (.tmp 5) rfl w.heap.size _ [] l rfl (by exact HM.out) A n c _ rfl HN.out (by exact RB.out _ HB0.out) (by simp only [List.length_nil]; have := HN.out; omega) HSZ.out ?_; intro v1 w1 hown1 hgrow1; have HB2 := Lib.hid (Ow.below (w0 := w) HM.out HB0.out hgrow1 HSZ.out); rw [List.nil_append] at hown1; have HO2 := Lib.hid hown1; clear hown1 hgrow1)
    go_loopw [3] (fun v wr => ∃ (j : Nat) (A' : Option Addr) (c' : Nat), v = .slice A' j c' ∧ n ≤ j ∧ j ≤ 64 ∧ Ow wr w.heap.size v (l ++ List.replicate (j - n) 0) ∧ Below w.heap.size w wr) (fun v _ => 64 - lenV v)
    case atStart =>
      obtain ⟨A', c', e, h1, h2, h3⟩ := HO2.out.form
      rw [← HN.out] at e
      exact ⟨n, A', c', e, Nat.le_refl _, by have := HN.out; omega, by rw [Nat.sub_self]; simpa using HO2.out, HB2.out⟩
    case round =>
      clear HO2 HB2
      obtain ⟨j, A', c', rfl, hj1, hj2, hown, hbel⟩ := hrel
      have HO := Lib.hid hown
      have HB := Lib.hid hbel
      have hsz := HB.out.size
      clear hown hbel
      by_cases hlt : j < 64
      · have hlti : (j : Int) < 64 := by omega
        have HN1 := Lib.hid (by have h := pad_next l j (by have := HN.out; omega); rw [← HN.out] at h; exact h)
        have HLN := Lib.hid (show (l ++ List.replicate (j - n) (0 : UInt8)).length = j by rw [List.length_append, List.length_replicate]; have := HN.out; omega)
        go_wp2_with (at_builtin; (refine wpList_app rfl _ (.tmp 15) (.tmp 16) rfl w.heap.size _ _ [0] rfl (by exact HO.out.alloc _) ⟨_, 0, none⟩ 1 _ rfl rfl (by exact news0 _) (by rw [HLN.out]; simp only [List.length_cons, List.length_nil]; omega) (by exact le_alloc hsz _) ?_); intro v2 w2 hown2 hgrow2; have HB3 := Lib.hid (Ow.below (w0 := w) (by exact HO.out.alloc _) (by exact HB.out.alloc hsz _) hgrow2 (by exact le_alloc hsz _)); rw [HN1.out] at hown2; have HW2 := Lib.hid hown2; clear hgrow2 hown2)
        obtain ⟨A'', c'', e, h1, h2, h3⟩ := HW2.out.form
        have HLN1 := Lib.hid (show (l ++ List.replicate (j + 1 - n) (0 : UInt8)).length = j + 1 by rw [List.length_append, List.length_replicate]; have := HN.out; omega)
        rw [HLN1.out] at e
        subst e
        clear h1 h2 h3
        go_roundw
        case rel => exact ⟨j + 1, A'', c'', rfl, by omega, by omega, HW2.out, HB3.out⟩
        case measure => simp [lenV]; omega
      · have hj : j = 64 := by omega
        subst hj
        go_wp2
        go_ret
        exact ⟨⟨_, rfl, HO.out⟩, HB.out⟩
end Go.Proofs.YtcfncbbdlbdbnaaDoor
