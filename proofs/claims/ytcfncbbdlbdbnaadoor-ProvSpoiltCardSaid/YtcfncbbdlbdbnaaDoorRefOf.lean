
/- The document's Of. -/
import Derived.Test.YtcfncbbdlbdbnaaDoorSum2
namespace Go.Proofs.YtcfncbbdlbdbnaaDoor
open Go.RowKit

set_option maxRecDepth 100000 in
theorem refPut_new (C : Option Addr) (m : List UInt8) (d : Nat) (w : World) (hl : m.length ≤ 100000) (hmd : m.length ≤ d) (hs : Rd w w.heap.size C m) :
    Calls Tryd.prog 45 #[hv h0 0 (.slice none 0 0), .slice C m.length d] w fun e w' => AnsH w' e (blks h0 m) (m.length : Int) (left m) ∧ Below w.heap.size w w' := by
  have h := refPut_any h0 0 none C [] m 0 d w (by simpa using (by omega : m.length ≤ 1000000)) (by simp) hmd Rd.nil hs (by omega)
  rw [List.nil_append, Nat.zero_add] at h
  exact h
set_option maxRecDepth 100000 in
theorem refOf_own (A : Option Addr) (l : List UInt8) (c : Nat) (w : World) (hl : l.length ≤ 100000) (hc : l.length ≤ c) (hr : Rd w w.heap.size A l) :
    Calls Tryd.prog 39 #[.slice A l.length c] w fun e w' => AnsO w.heap.size w' e (ofF l) ∧ Below w.heap.size w w' := by
  have HR := Lib.hid hr
  have HP := Lib.hid (fun W h1 => refPut_new A l c W hl hc h1)
  have HS := Lib.hid (fun A' c' W h1 h2 => refSum_own (blks h0 l) l.length A' (left l) c' W (by have := left_small l; omega) h1 h2 (by omega) (by rw [left_length]; omega))
  obtain ⟨n, hn⟩ : ∃ n, n = l.length := ⟨_, rfl⟩
  obtain ⟨r, hr2⟩ : ∃ r, r = (left l).length := ⟨_, rfl⟩
  have HO := Lib.hid (show sumF (blks h0 l) (left l) l.length = ofF l from rfl)
  rw [HO.out] at HS
  rw [← hr2, ← hn] at HS
  rw [← hn] at HP
  rw [← hn]
  have HRR := Lib.hid hr2
  clear hr hn hr2 hl hc
  go_enter Tryd.func39, Tryd.ntmps39
  go_wp2_with fail
  refine (refNew_any _).mono ?_
  rintro e w1 ⟨rfl, hb1⟩
  have HB1 := Lib.hid hb1
  clear hb1
  go_wp2_with fail
  refine (HP.out _ ((HR.out.below HB1.out (Nat.le_refl _)).more HB1.out.size)).mono ?_
  rintro e w2 ⟨⟨A2, c2, rfl, h1, h2, h3⟩, hb2⟩
  have HB2 := Lib.hid (HB1.out.trans (hb2.mono HB1.out.size))
  have H3 := Lib.hid h3
  rw [← HRR.out] at h1 ⊢
  clear hb2 h3 HB1 HR
  go_wp2_with fail
  refine (HS.out A2 c2 _ h1 H3.out).mono ?_
  rintro e w3 ⟨⟨v, rfl, h6⟩, hb3⟩
  have H6 := Lib.hid (h6.base HB2.out.size)
  have HB3 := Lib.hid (HB2.out.trans (hb3.mono HB2.out.size))
  clear h6 hb3
  go_wp2_with fail
  go_ret
  exact ⟨⟨v, rfl, H6.out⟩, HB3.out⟩
set_option maxRecDepth 100000 in
theorem refOf_any (A : Option Addr) (l : List UInt8) (c : Nat) (w : World) (hl : l.length ≤ 100000) (hc : l.length ≤ c) (hr : Rd w w.heap.size A l) :
    Calls Tryd.prog 39 #[.slice A l.length c] w fun e w' => AnsB w' e (ofF l) 32 ∧ Below w.heap.size w w' :=
  (refOf_own A l c w hl hc hr).mono fun _ _ ⟨h1, h2⟩ => ⟨h1.b (take_bytes_length _ 8 (by omega)), h2⟩
theorem of_length (l : List UInt8) : (ofF l).length = 32 := by
  unfold ofF sumF
  exact take_bytes_length _ 8 (by omega)
end Go.Proofs.YtcfncbbdlbdbnaaDoor
