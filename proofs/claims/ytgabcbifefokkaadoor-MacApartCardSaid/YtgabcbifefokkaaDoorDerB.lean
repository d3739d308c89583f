/- mac.Derive, where there is a key. -/
import Derived.Test.YtgabcbifefokkaaDoorDerA
namespace Go.Proofs.YtgabcbifefokkaaDoor
open Go.RowKit

set_option maxRecDepth 100000 in
set_option maxHeartbeats 2000000 in
theorem derive_ok (A P : Option Addr) (k : List UInt8) (ps : List (List UInt8)) (c d : Nat) (s : ByteArray) (w : World) (hkl : k.length ≤ 100000) (hkc : k.length ≤ c) (hs : s.size ≤ 255) (hps : ps.length ≤ 16) (hto : tot ps ps.length ≤ 2000) (hr : Rd w w.heap.size A k) (hm : Mat w w.heap.size P ps) (hk : Ks w) :
    Calls Tryd.prog 20 #[.slice A k.length c, .string s, .slice P ps.length d] w fun e w' => Ans w' e (tagF k (toldF s.data.toList ps)) 32 (.int .i64 0) ∧ Below w.heap.size w w' := by
  have RA := Lib.hid (fun w' (h : Below w.heap.size w w') => (hr.below h (Nat.le_refl _)).more h.size)
  have KB := Lib.hid (fun w' (h : Below w.heap.size w w') => Ks.call hk h)
  have HM0 := Lib.hid hm
  obtain ⟨S, hS⟩ : ∃ S, S = s.data.toList := ⟨_, rfl⟩
  have hSl : S.length = s.size := by rw [hS, str_len]
  have HTL := Lib.hid (fun j hj => told_length S ps j hj)
  have HTS := Lib.hid (fun j hj => told_succ S ps j hj)
  have HTM := Lib.hid (fun j hj => tot_mono ps j hj)
  have HT0 := Lib.hid (told_zero S ps)
  rw [← hS]
  have HSS := Lib.hid hS
  have HSL := Lib.hid hSl
  obtain ⟨q, hq⟩ : ∃ q, q = ps.length := ⟨_, rfl⟩
  have HQ := Lib.hid hq
  have CT := Lib.hid (fun A' c' N W (hN : N = (toldF S ps).length) (h0 : (toldF S ps).length ≤ c') (h1 : Rd W W.heap.size A k) (h2 : Rd W W.heap.size A' (toldF S ps)) (h3 : Ks W) => show Calls Tryd.prog 14 #[.slice A k.length c, .slice A' N c'] W fun e w' => AnsB w' e (tagF k (toldF S ps)) 32 ∧ Below W.heap.size W w' from by
    subst hN
    exact tag_any A A' k (toldF S ps) c c' W hkl (by have h := HTL.out _ (Nat.le_refl ps.length); unfold toldF; omega) hkc h0 h1 h2 h3)
  generalize tagF k (toldF S ps) = T at *
  have HTF := Lib.hid (show toldF S ps = toldN S ps q by rw [hq]; rfl)
  obtain ⟨F, hF⟩ : ∃ F, F = toldN S ps := ⟨_, rfl⟩
  rw [← hF] at HTL HTS HT0 HTF
  rw [← hq] at HTL HTS HTM hps hto ⊢
  rw [HTF.out] at CT
  obtain ⟨L0, hL0⟩ : ∃ L0, L0 = s.size := ⟨_, rfl⟩
  have HL0 := Lib.hid hL0
  have hsz : L0 ≤ 255 := by omega
  have LB := Lib.hid (show (s.size : Int) = ((UInt8.ofNat S.length).toNat : Int) by rw [UInt8.toNat_ofNat', hSl]; omega)
  generalize k.length = n at *
  have h1i : ¬ (255 : Int) < (s.size : Int) := by omega
  have h2i : ¬ (16 : Int) < (q : Int) := by omega
  clear hr hm hk hS hSl hq hF hL0 hkl hkc
  go_enter Tryd.func20, Tryd.ntmps20
  go_wp2_with (at_builtin; refine wpList_appStr rfl (w.alloc (.cells #[.int .u8 (s.size : Int)] 5)) (.tmp 22) (.tmp 23) rfl w.heap.size _ [UInt8.ofNat S.length] rfl (by exact Ow.made1i w (Nat.le_refl _) _ _ LB.out) s rfl (by simp only [List.length_cons, List.length_nil]; have := HL0.out; omega) (by exact le_alloc (Nat.le_refl _) _) ?_; intro v1 w1 hown1 hgrow1; have HB1 := Lib.hid (Ow.below (w0 := w) (by exact Ow.made1i w (Nat.le_refl _) _ _ LB.out) (by exact (Below.refl _ _).alloc (Nat.le_refl _) _) hgrow1 (by exact le_alloc (Nat.le_refl _) _)); rw [← HSS.out, ← HT0.out] at hown1; have HO1 := Lib.hid hown1; clear hown1 hgrow1)
  go_loopw [8, 27] (fun v i wr => ∃ j : Nat, j ≤ q ∧ i = .int .i64 j ∧ Ow wr w.heap.size v (F j) ∧ Below w.heap.size w wr) (fun _ i _ => q - (intOf i).toNat)
  case atStart => exact ⟨0, by omega, rfl, HO1.out, HB1.out⟩
  case round =>
    clear HO1 HB1
    obtain ⟨j, hj, rfl, hown, hbel⟩ := hrel
    have HO := Lib.hid hown
    have HB := Lib.hid hbel
    have hsz2 := hbel.size
    clear hown hbel
    by_cases hlt : j < q
    · obtain ⟨b, o, rfl, hb, hrow⟩ := HM0.out (by have := HQ.out; omega)
      obtain ⟨A', c', hcell, hc1, hc2, hrd⟩ := hrow j (by have := HQ.out; omega)
      have ep : ps.getD j [] = ps[j]'(by have := HQ.out; omega) := by rw [List.getD_eq_getElem?_getD, List.getElem?_eq_getElem (by have := HQ.out; omega)]; rfl
      have HSU := Lib.hid (HTS.out j hlt)
      have HLN := Lib.hid (HTL.out j (by omega))
      have HLN1 := Lib.hid (HTL.out (j + 1) (by omega))
      have HMO := Lib.hid (HTM.out (j + 1) (by omega))
      have HTO := Lib.hid (tot_succ ps j (by have := HQ.out; omega))
      rw [← ep] at hcell hc1 hrd HTO
      have hcw := (HB.out.cell (p := ⟨b, o + j, none⟩) hb).trans hcell
      generalize ps.getD j [] = p at *
      obtain ⟨L, hL⟩ : ∃ L, L = p.length := ⟨_, rfl⟩
      have HL := Lib.hid hL
      have hL2 : L ≤ 2000 := by have := HMO.out; have := HTO.out; omega
      rw [← hL] at hcw hc1 HSU
      have HRD := Lib.hid (fun w' (h : Below w.heap.size w w') => (hrd.below h (Nat.le_refl _)).more h.size)
      have N1 := Lib.hid (show (L : Int) / 256 = ((UInt8.ofNat (L / 256)).toNat : Int) by rw [UInt8.toNat_ofNat']; omega)
      have N2 := Lib.hid (show (L : Int) % 256 = ((UInt8.ofNat L).toNat : Int) by rw [UInt8.toNat_ofNat']; omega)
      have HFL := Lib.hid (show (F j).length + L + 2 ≤ 5000 by have := HLN.out; have := HMO.out; have := HTO.out; have := HL.out; have := HL0.out; have := HSL.out; omega)
      have hlti : (j : Int) < (q : Int) := by omega
      have hj0 : (0 : Int) ≤ (j : Int) := Int.natCast_nonneg _
      have hLi : ¬ (65535 : Int) < (L : Int) := by omega
      clear hrow hcell hL hrd ep
      go_wp2_with (first
        | (at_builtin; (refine wpList_app rfl _ (.tmp 34) (.tmp 42) rfl w.heap.size _ _ [UInt8.ofNat (L / 256), UInt8.ofNat L] rfl (by exact HO.out.alloc _) ⟨_, 0, none⟩ 2 _ rfl rfl (by exact news2i _ _ _ _ _ N1.out N2.out) (by have := HFL.out; simp only [List.length_cons, List.length_nil]; omega) (by exact le_alloc hsz2 _) ?_); intro v2 w2 hown2 hgrow2; have HB2 := Lib.hid (Ow.below (w0 := w) (by exact HO.out.alloc _) (by exact HB.out.alloc hsz2 _) hgrow2 (by exact le_alloc hsz2 _)); have HW2 := Lib.hid hown2; have hsz3 := HB2.out.size; clear hgrow2 hown2)
        | (at_builtin; (refine wpList_appS w2 rfl (.tmp 44) (.tmp 45) rfl w.heap.size _ _ p rfl (by exact HW2.out) A' L c' _ rfl HL.out (by exact HRD.out _ HB2.out) (by have := HFL.out; have := HL.out; simp only [List.length_append, List.length_cons, List.length_nil]; omega) hsz3 ?_); intro v3 w3 hown3 hgrow3; have HB3 := Lib.hid (Ow.below (w0 := w) (by exact HW2.out) (by exact HB2.out) hgrow3 hsz3); rw [← HSU.out] at hown3; have HW3 := Lib.hid hown3; clear hgrow3 hown3))
      go_roundw
      case rel => exact ⟨j + 1, by omega, by go_num, HW3.out, HB3.out⟩
      case measure => simp [intOf]; omega
    · have hjq : j = q := by omega
      rw [hjq] at HO
      obtain ⟨Av, cv, ev, hv1, hv2, hv3⟩ := HO.out.form
      subst ev
      have HV := Lib.hid hv3
      obtain ⟨N, hN⟩ : ∃ N, N = (F q).length := ⟨_, rfl⟩
      have HNN := Lib.hid hN
      rw [← hN] at hv1 ⊢
      clear HO hv3 hN
      obtain ⟨wo, hwo⟩ : ∃ x, x = wr := ⟨_, rfl⟩
      rw [← hwo] at HB HV hsz2
      rw [← hwo]
      clear hwo
      go_wp2_with fail
      refine (CT.out Av cv N _ HNN.out (by rw [← HNN.out]; exact hv1) (RA.out _ HB.out) HV.out (KB.out _ HB.out)).mono ?_
      rintro e w5 ⟨⟨A5, c5, rfl, h1, h2, h3⟩, hb5⟩
      have HR5 := Lib.hid h3
      have HB5 := Lib.hid (bel_call HB.out hb5 hsz2)
      clear h3 hb5
      go_wp2_with fail
      go_ret2
      exact ⟨⟨A5, c5, rfl, h1, h2, HR5.out⟩, HB5.out⟩
end Go.Proofs.YtgabcbifefokkaaDoor
