
/- mac.Tag, mac.Kcv. -/
import Derived.Test.YtcfncbbdlbdbnaaDoorMacB
namespace Go.Proofs.YtcfncbbdlbdbnaaDoor
open Go.RowKit

set_option maxRecDepth 100000 in
set_option maxHeartbeats 1000000 in
theorem tag_any (A C : Option Addr) (k b : List UInt8) (c d : Nat) (w : World) (hkl : k.length ≤ 100000) (hbl : b.length ≤ 90000) (hkc : k.length ≤ c) (hbd : b.length ≤ d) (hr : Rd w w.heap.size A k) (hs : Rd w w.heap.size C b) (hk : Ks w) :
    Calls Tryd.prog 35 #[.slice A k.length c, .slice C b.length d] w fun e w' => AnsB w' e (tagF k b) 32 ∧ Below w.heap.size w w' := by
  have hmf : ∀ (fn : Fn) (first cap : Array Value) (w : World), (Instr.makeFunc fn first cap).run Tryd.prog w = .ok (.func fn first cap) w := fun _ _ _ _ => rfl
  have RC := Lib.hid (fun w' (h : Below w.heap.size w w') => (hs.below h (Nat.le_refl _)).more h.size)
  have KB := Lib.hid (fun w' (h : Below w.heap.size w w') => Ks.call hk h)
  have C0 := Lib.hid (macBlock_any A k c w hkl hkc hr hk)
  have HKL := Lib.hid (blkK_length k)
  have CT92 := Lib.hid (fun p g W h1 h2 => show Calls Tryd.prog 42 #[.int .u8 92, .pointer (some ⟨p, 0, none⟩)] W fun e w' => AnsK W.heap.size w' e (xorL 92 (blkK k)) ∧ Below W.heap.size W w' from turn_any 92 p g (blkK k) (blkK_length k) W h1 h2)
  have CT54 := Lib.hid (fun p g W h1 h2 => show Calls Tryd.prog 42 #[.int .u8 54, .pointer (some ⟨p, 0, none⟩)] W fun e w' => AnsK W.heap.size w' e (xorL 54 (blkK k)) ∧ Below W.heap.size W w' from turn_any 54 p g (blkK k) (blkK_length k) W h1 h2)
  have C1 := Lib.hid (fun A' W h1 h2 h3 => behind_any A' C (xorL 54 (blkK k)) b 64 d b.length W (by rw [xorL_length, blkK_length]) (by omega) rfl (by omega) hbd h1 h2 h3)
  have C2 := Lib.hid (fun A' A'' c'' W (h0 : 32 ≤ c'') h1 h2 h3 => behind_any A' A'' (xorL 92 (blkK k)) (ofF (xorL 54 (blkK k) ++ b)) 64 c'' 32 W (by rw [xorL_length, blkK_length]) (by rw [ofF_len]; decide) (by rw [ofF_len]) (by omega) (by rw [ofF_len]; exact (show 32 ≤ c'' from h0)) h1 h2 h3)
  have HT := Lib.hid (show ofF (xorL 92 (blkK k) ++ ofF (xorL 54 (blkK k) ++ b)) = tagF k b from rfl)
  rw [HT.out] at C2
  generalize tagF k b = T at *
  generalize ofF (xorL 54 (blkK k) ++ b) = I at *
  generalize blkK k = K at *
  generalize k.length = n at *
  generalize b.length = m at *
  clear hr hs hk HT hkl hbl hkc hbd
  go_enter Tryd.func35, Tryd.ntmps35
  go_wp2_with fail
  refine C0.out.mono ?_
  rintro e w1 ⟨⟨g, rfl, h1, h2⟩, hb1⟩
  have HG1 := Lib.hid h1
  have HB1 := Lib.hid hb1
  clear h1 h2 hb1 C0
  go_wp2_with fail
  refine (CT92.out w1.heap.size g _ (by exact heap_alloc_new w1 _) (by exact old_alloc HG1.out _)).mono ?_
  rintro e w2 ⟨⟨g2, rfl, h1, h2⟩, hb2⟩
  have HP2 := Lib.hid (old_below (g := w1.heap.size) (by exact heap_alloc_new w1 _) hb2 (Nat.le_refl _))
  have HG2 := Lib.hid (old_below (g := g) (by exact old_alloc HG1.out _) hb2 (Nat.le_refl _))
  have HQ2 := Lib.hid h1
  have HB2 := Lib.hid (bel_call (HB1.out.alloc HB1.out.size _) hb2 (by exact le_alloc HB1.out.size _))
  clear h1 h2 hb2 HG1 HB1 CT92
  go_wp2_with fail
  refine (CT54.out w1.heap.size g _ HP2.out HG2.out).mono ?_
  rintro e w3 ⟨⟨g3, rfl, h1, h2⟩, hb3⟩
  have HQ3 := Lib.hid (Rd.block (old_below HQ2.out hb3 (Nat.le_refl _)))
  have HR3 := Lib.hid (Rd.block h1)
  have HB3 := Lib.hid (bel_call HB2.out hb3 HB2.out.size)
  clear h1 h2 hb3 HP2 HG2 HQ2 HB2 CT54
  go_wp2_with fail
  refine (C1.out _ _ HR3.out (RC.out _ HB3.out) (KB.out _ HB3.out)).mono ?_
  rintro e w4 ⟨⟨A4, c4, rfl, h4, h5, h6⟩, hb4⟩
  have HQ4 := Lib.hid ((HQ3.out.below hb4 (Nat.le_refl _)).more hb4.size)
  have HR4 := Lib.hid h6
  have HB4 := Lib.hid (bel_call HB3.out hb4 HB3.out.size)
  clear h6 hb4 HB3 HQ3 HR3 C1
  go_wp2_with fail
  refine (C2.out _ _ _ _ h4 HQ4.out HR4.out (KB.out _ HB4.out)).mono ?_
  rintro e w5 ⟨⟨A5, c5, rfl, h4, h5, h6⟩, hb5⟩
  have HR5 := Lib.hid h6
  have HB5 := Lib.hid (bel_call HB4.out hb5 HB4.out.size)
  clear h6 hb5 HB4 HQ4 HR4 C2
  go_wp2_with fail
  go_ret
  exact ⟨⟨A5, c5, rfl, h4, h5, HR5.out⟩, HB5.out⟩

theorem made8 : madeCells #[Value.int .u8 0] 8 = (cs (List.replicate 8 0)).toArray := madeB 8
/-- a check value -/
def kcvF (k : List UInt8) : List UInt8 := (tagF k (List.replicate 8 0)).take 3
theorem kcvF_length (k : List UInt8) : (kcvF k).length = 3 := by unfold kcvF; rw [List.length_take, tagF_length]; rfl
theorem rd3 {w : World} {B : Nat} {A : Option Addr} {l : List UInt8} (h : Rd w B A l) (hl : 3 ≤ l.length) : Rd w B A (l.take 3) := by
  intro h0
  obtain ⟨b, o, e, hb, hc⟩ := h (by omega)
  refine ⟨b, o, e, hb, fun j hj => ?_⟩
  rw [hc j (by rw [List.length_take] at hj; omega), List.getElem_take]

end Go.Proofs.YtcfncbbdlbdbnaaDoor
