
/- sha.Of, sha.Key, sha.Right. -/
import Derived.Test.YtcfncbbdlbdbnaaDoorSum
namespace Go.Proofs.YtcfncbbdlbdbnaaDoor
open Go.RowKit

set_option maxRecDepth 100000 in
theorem put_new (C : Option Addr) (m : List UInt8) (d : Nat) (w : World) (hl : m.length ≤ 100000) (hmd : m.length ≤ d) (hs : Rd w w.heap.size C m) (hk : Ks w) :
    Calls Tryd.prog 49 #[hv h0 0 (.slice none 0 0), .slice C m.length d] w fun e w' => AnsH w' e (blks h0 m) (m.length : Int) (left m) ∧ Below w.heap.size w w' := by
  have h := put_any h0 0 none C [] m 0 d w (by simpa using (by omega : m.length ≤ 1000000)) (by simp) hmd Rd.nil hs hk (by omega)
  rw [List.nil_append, Nat.zero_add] at h
  exact h
set_option maxRecDepth 100000 in
theorem left_small (l : List UInt8) : (left l).length ≤ 63 := by rw [left_length]; omega

set_option maxRecDepth 100000 in
theorem of_any (A : Option Addr) (l : List UInt8) (c : Nat) (w : World) (hl : l.length ≤ 100000) (hc : l.length ≤ c) (hr : Rd w w.heap.size A l) (hk : Ks w) :
    Calls Tryd.prog 47 #[.slice A l.length c] w fun e w' => AnsB w' e (ofF l) 32 ∧ Below w.heap.size w w' := by
  have HR := Lib.hid hr
  have HK := Lib.hid hk
  have HP := Lib.hid (fun W h1 h2 => put_new A l c W hl hc h1 h2)
  have HS := Lib.hid (fun A' c' W h1 h2 h3 => sum_any (blks h0 l) l.length A' (left l) c' W (by have := left_small l; omega) h1 h2 h3 (by omega))
  obtain ⟨n, hn⟩ : ∃ n, n = l.length := ⟨_, rfl⟩
  obtain ⟨r, hr2⟩ : ∃ r, r = (left l).length := ⟨_, rfl⟩
  have HO := Lib.hid (show sumF (blks h0 l) (left l) l.length = ofF l from rfl)
  rw [HO.out] at HS
  rw [← hr2, ← hn] at HS
  rw [← hn] at HP
  rw [← hn]
  have HRR := Lib.hid hr2
  clear hr hk hn hr2 hl hc
  go_enter Tryd.func47, Tryd.ntmps47
  go_wp2_with fail
  refine (new_any _).mono ?_
  rintro e w1 ⟨rfl, hb1⟩
  have HB1 := Lib.hid hb1
  clear hb1
  go_wp2_with fail
  refine (HP.out _ ((HR.out.below HB1.out (Nat.le_refl _)).more HB1.out.size) (HK.out.call HB1.out)).mono ?_
  rintro e w2 ⟨⟨A2, c2, rfl, h1, h2, h3⟩, hb2⟩
  have HB2 := Lib.hid (HB1.out.trans (hb2.mono HB1.out.size))
  have HK2 := Lib.hid ((HK.out.call HB1.out).call hb2)
  have H3 := Lib.hid h3
  rw [← HRR.out] at h1 ⊢
  clear hb2 h3 HB1 HR HK
  go_wp2_with fail
  refine (HS.out A2 c2 _ h1 H3.out HK2.out).mono ?_
  rintro e w3 ⟨⟨A3, c3, rfl, h4, h5, h6⟩, hb3⟩
  have H6 := Lib.hid h6
  have HB3 := Lib.hid (HB2.out.trans (hb3.mono HB2.out.size))
  clear h6 hb3
  go_wp2_with fail
  go_ret
  exact ⟨⟨A3, c3, rfl, h4, h5, H6.out⟩, HB3.out⟩
end Go.Proofs.YtcfncbbdlbdbnaaDoor
