/- The document's Derive. -/
import Derived.Test.YtgabcbifefokkaaDoorDerC
import Derived.Test.YtgabcbifefokkaaDoorMacE
namespace Go.Proofs.YtgabcbifefokkaaDoor
open Go.RowKit

set_option maxRecDepth 100000 in
theorem refDerive_bad (A P : Option Addr) (n c m d : Nat) (s : ByteArray) (w : World) (hn : m ≤ 9223372036854775807) (hs : s.size ≤ 9223372036854775807) (h : 255 < s.size ∨ 16 < m) :
    Calls Tryd.prog 21 #[.slice A n c, .string s, .slice P m d] w fun e w' => e = .returned (.tuple #[.slice none 0 0, .int .i64 1]) ∧ w = w' := by
  by_cases h1 : 255 < s.size
  · have h1i : (255 : Int) < (s.size : Int) := by omega
    go_enter Tryd.func21, Tryd.ntmps21
    go_wp2
    go_ret2
    exact ⟨rfl, rfl⟩
  · have h1i : ¬ (255 : Int) < (s.size : Int) := by omega
    have h2i : (16 : Int) < (m : Int) := by omega
    go_enter Tryd.func21, Tryd.ntmps21
    go_wp2
    go_ret2
    exact ⟨rfl, rfl⟩

set_option maxRecDepth 100000 in
set_option maxHeartbeats 2000000 in
theorem refDerive_ok (A P : Option Addr) (k : List UInt8) (ps : List (List UInt8)) (c d : Nat) (s : ByteArray) (w : World) (hkl : k.length ≤ 100000) (hkc : k.length ≤ c) (hs : s.size ≤ 255) (hps : ps.length ≤ 16) (hto : tot ps ps.length ≤ 2000) (hr : Rd w w.heap.size A k) (hm : Mat w w.heap.size P ps) :
    Calls Tryd.prog 21 #[.slice A k.length c, .string s, .slice P ps.length d] w fun e w' => Ans w' e (tagF k (toldF s.data.toList ps)) 32 (.int .i64 0) ∧ Below w.heap.size w w' := by
  have RA := Lib.hid (fun w' (h : Below w.heap.size w w') => (hr.below h (Nat.le_refl _)).more h.size)
  have HM0 := Lib.hid hm
  have HTM := Lib.hid (fun j hj => tot_mono ps j hj)
  have CT := Lib.hid (told_any P ps d s w hs hps hto hm)
  have hTL : (toldF s.data.toList ps).length ≤ 5000 := by
    have h := told_length s.data.toList ps _ (Nat.le_refl ps.length)
    rw [str_len] at h
    unfold toldF
    omega
  obtain ⟨T, hT⟩ : ∃ T, T = toldF s.data.toList ps := ⟨_, rfl⟩
  rw [← hT] at CT hTL ⊢
  have CG := Lib.hid (fun A' c' N W (hN : N = T.length) (h1 : Rd W W.heap.size A k) (h2 : Rd W W.heap.size A' T) => show Calls Tryd.prog 15 #[.slice A k.length c, .slice A' N c'] W fun e w' => AnsO W.heap.size w' e (tagF k T) ∧ Below W.heap.size W w' from by
    subst hN
    exact refTag_any A A' k T c c' W hkl (by omega) hkc h1 h2)
  have HGL := Lib.hid (tagF_length k T)
  generalize tagF k T = R at *
  obtain ⟨q, hq⟩ : ∃ q, q = ps.length := ⟨_, rfl⟩
  have HQ := Lib.hid hq
  rw [← hq] at HTM CT hps hto ⊢
  generalize k.length = n at *
  have h1i : ¬ (255 : Int) < (s.size : Int) := by omega
  have h2i : ¬ (16 : Int) < (q : Int) := by omega
  clear hr hm hq hkl hkc hT
  go_enter Tryd.func21, Tryd.ntmps21
  go_wp2_with fail
  go_loop [8] (fun i => ∃ j : Nat, j ≤ q ∧ i = .int .i64 j) (fun i => q - (intOf i).toNat)
  case atStart => exact ⟨0, by omega, rfl⟩
  case round =>
    obtain ⟨j, hj, rfl⟩ := hrel
    by_cases hlt : j < q
    · obtain ⟨b, o, rfl, hb, hrow⟩ := HM0.out (by have := HQ.out; omega)
      obtain ⟨A', c', hcell, hc1, hc2, hrd⟩ := hrow j (by have := HQ.out; omega)
      have HMO := Lib.hid (HTM.out (j + 1) (by omega))
      have HTO := Lib.hid (tot_succ ps j (by have := HQ.out; omega))
      obtain ⟨L, hL⟩ : ∃ L, L = ps[j].length := ⟨_, rfl⟩
      have hL2 : L ≤ 2000 := by have := HMO.out; have := HTO.out; omega
      rw [← hL] at hcell hc1
      have hlti : (j : Int) < (q : Int) := by omega
      have hj0 : (0 : Int) ≤ (j : Int) := Int.natCast_nonneg _
      have hLi : ¬ (65535 : Int) < (L : Int) := by omega
      clear hrow hL hrd HTO HMO
      go_wp2
      go_round
      case rel => exact ⟨j + 1, by omega, by go_num⟩
      case measure => simp [intOf]; omega
    · have hjq : j = q := by omega
      subst hjq
      go_wp2_with fail
      refine CT.out.mono ?_
      rintro e w1 ⟨⟨v1, rfl, ho1⟩, hb1⟩
      have HB1 := Lib.hid hb1
      obtain ⟨Av, cv, ev, hv1, hv2, hv3⟩ := ho1.form
      subst ev
      have HV := Lib.hid hv3
      obtain ⟨N, hN⟩ : ∃ N, N = T.length := ⟨_, rfl⟩
      have HNN := Lib.hid hN
      rw [← hN]
      clear hv3 hN ho1 hb1 hTL hv1
      go_wp2_with fail
      refine (CG.out Av cv N _ HNN.out (RA.out _ HB1.out) HV.out).mono ?_
      rintro e w5 ⟨⟨v5, rfl, ho5⟩, hb5⟩
      obtain ⟨A5, c5, e5, h51, h52, h53⟩ := ho5.form
      rw [HGL.out] at e5 h51
      subst e5
      have HR5 := Lib.hid h53
      have HB5 := Lib.hid (bel_call HB1.out hb5 HB1.out.size)
      clear h53 hb5 ho5
      go_wp2_with fail
      go_ret2
      exact ⟨⟨A5, c5, rfl, h51, h52, HR5.out⟩, HB5.out⟩
end Go.Proofs.YtgabcbifefokkaaDoor
