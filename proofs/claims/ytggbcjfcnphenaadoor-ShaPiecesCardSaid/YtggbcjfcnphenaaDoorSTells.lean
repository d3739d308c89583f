/- The document's Of; ShaTells' walk -/
import Derived.Test.YtggbcjfcnphenaaDoorSum2
import Derived.Test.YtggbcjfcnphenaaDoorSParts
namespace Go.Proofs.YtggbcjfcnphenaaDoor
open Go.RowKit

theorem refPut_new (C : Option Addr) (m : List UInt8) (d : Nat) (w : World) (hl : m.length ≤ 100000) (hmd : m.length ≤ d) (hs : Rd w w.heap.size C m) :
    Calls Tryd.prog 24 #[hv h0 0 (.slice none 0 0), .slice C m.length d] w fun e w' => AnsH w' e (blks h0 m) (m.length : Int) (left m) ∧ Below w.heap.size w w' := by
  have h := refPut_any h0 0 none C [] m 0 d w (by simpa using (by omega : m.length ≤ 1000000)) (by simp) hmd Rd.nil hs (by omega)
  rw [List.nil_append, Nat.zero_add] at h
  exact h
theorem refOf_any (A : Option Addr) (l : List UInt8) (c : Nat) (w : World) (hl : l.length ≤ 100000) (hc : l.length ≤ c) (hr : Rd w w.heap.size A l) :
    Calls Tryd.prog 13 #[.slice A l.length c] w fun e w' => AnsB w' e (ofF l) 32 ∧ Below w.heap.size w w' := by
  have HR := Lib.hid hr
  have HP := Lib.hid (fun W h1 => refPut_new A l c W hl hc h1)
  have HS := Lib.hid (fun A' c' W h1 h2 => refSum_any (blks h0 l) l.length A' (left l) c' W (by have := left_small l; omega) h1 h2 (by omega) (by rw [left_length]; omega))
  obtain ⟨n, hn⟩ : ∃ n, n = l.length := ⟨_, rfl⟩
  obtain ⟨r, hr2⟩ : ∃ r, r = (left l).length := ⟨_, rfl⟩
  have HO := Lib.hid (show sumF (blks h0 l) (left l) l.length = ofF l from rfl)
  rw [HO.out] at HS
  rw [← hr2, ← hn] at HS
  rw [← hn] at HP
  rw [← hn]
  have HRR := Lib.hid hr2
  clear hr hn hr2 hl hc
  go_enter Tryd.func13, Tryd.ntmps13
  go_wp2_with fail
  refine (refNew_any _).mono ?_
  rintro e w1 ⟨rfl, hb1⟩
  have HB1 := Lib.hid hb1
  clear hb1
  go_wp2_with fail
  refine (HP.out _ ((HR.out.below HB1.out (Nat.le_refl _)).more HB1.out.size)).mono ?_
  rintro e w2 ⟨⟨A2, c2, rfl, h1, h2, h3⟩, hb2⟩
  have HB2 := Lib.hid (HB1.out.trans (hb2.mono HB1.out.size))
  have H3 := Lib.hid h3
  rw [← HRR.out] at h1 ⊢
  clear hb2 h3 HB1 HR
  go_wp2_with fail
  refine (HS.out A2 c2 _ h1 H3.out).mono ?_
  rintro e w3 ⟨⟨A3, c3, rfl, h4, h5, h6⟩, hb3⟩
  have H6 := Lib.hid h6
  have HB3 := Lib.hid (HB2.out.trans (hb3.mono HB2.out.size))
  clear h6 hb3
  go_wp2_with fail
  go_ret
  exact ⟨⟨A3, c3, rfl, h4, h5, H6.out⟩, HB3.out⟩
theorem of_length (l : List UInt8) : (ofF l).length = 32 := by
  unfold ofF sumF
  exact take_bytes_length _ 8 (by omega)

set_option maxRecDepth 100000 in
set_option maxHeartbeats 1000000 in
theorem shaTells_walk (A : Option Addr) (l : List UInt8) (c : Nat) (W : World) (hc : l.length ≤ c) (hr : Rd W W.heap.size A l) (hk : Ks W) :
    Calls Tryd.prog 3 #[.slice A l.length c] W fun e W' => e = .returned (.bool true) ∧ Below W.heap.size W W' := by
  have RB := Lib.hid (fun w (h : Below W.heap.size W w) => (hr.below h (Nat.le_refl _)).more h.size)
  have KB := Lib.hid (fun w (h : Below W.heap.size W w) => Ks.call hk h)
  obtain ⟨n, hn⟩ : ∃ n, n = l.length := ⟨_, rfl⟩
  by_cases h1500 : 1500 < l.length
  · rw [← hn] at hc h1500 ⊢
    have h1500i : (1500 : Int) < (n : Int) := by omega
    clear hr hk hn
    go_enter Tryd.func3, Tryd.ntmps3
    go_wp2_with fail
    refine (shown_any _ (KB.out _ (Below.refl _ _))).mono ?_
    rintro e W1 ⟨rfl, hb1⟩
    have HB1 := Lib.hid hb1
    clear hb1
    go_wp2
    go_ret
    exact ⟨rfl, HB1.out⟩
  · have C1 := Lib.hid (fun W h1 h2 => of_any A l c W (by omega) hc h1 h2)
    have C2 := Lib.hid (fun W h1 => refOf_any A l c W (by omega) hc h1)
    have HOL := Lib.hid (of_length l)
    generalize ofF l = P at *
    rw [← hn] at hc h1500 C1 C2 ⊢
    have h1500i : ¬ (1500 : Int) < (n : Int) := by omega
    clear hr hk hn
    go_enter Tryd.func3, Tryd.ntmps3
    go_wp2_with fail
    refine (shown_any _ (KB.out _ (Below.refl _ _))).mono ?_
    rintro e W1 ⟨rfl, hb1⟩
    have HB1 := Lib.hid hb1
    clear hb1
    go_wp2_with fail
    refine (C1.out _ (RB.out _ HB1.out) (KB.out _ HB1.out)).mono ?_
    rintro e W2 ⟨⟨A2, c2, rfl, h1, h2, h3⟩, hb2⟩
    have HB2 := Lib.hid (HB1.out.trans (hb2.mono HB1.out.size))
    have H3 := Lib.hid h3
    clear hb2 h3 HB1
    go_wp2_with fail
    refine (C2.out _ (RB.out _ HB2.out)).mono ?_
    rintro e W3 ⟨⟨A3, c3, rfl, h4, h5, h6⟩, hb3⟩
    have HB3 := Lib.hid (HB2.out.trans (hb3.mono HB2.out.size))
    have H6 := Lib.hid h6
    have H3' := Lib.hid ((H3.out.below hb3 (Nat.le_refl _)).more hb3.size)
    clear hb3 h6 HB2 H3
    go_wp2_with fail
    refine (same_sl _ _ P P _ ⟨A2, c2, by rw [HOL.out], by rw [HOL.out]; exact h1, h2, H3'.out⟩ ⟨A3, c3, by rw [HOL.out], by rw [HOL.out]; exact h4, h5, H6.out⟩).mono ?_
    rintro e W4 ⟨rfl, rfl⟩
    rw [show decide (P = P) = true by simp]
    go_wp2
    go_ret
    exact ⟨rfl, HB3.out⟩
end Go.Proofs.YtggbcjfcnphenaaDoor
