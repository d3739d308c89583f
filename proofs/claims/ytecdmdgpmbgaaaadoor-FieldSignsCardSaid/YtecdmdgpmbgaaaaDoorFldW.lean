
/- field's count, itself. -/
import Derived.Test.YtecdmdgpmbgaaaaDoorFldU
import Derived.Test.YtecdmdgpmbgaaaaDoorFldV
import Derived.Test.YtecdmdgpmbgaaaaDoorFldP
import Derived.Test.YtecdmdgpmbgaaaaDoorFldG
namespace Go.Proofs.YtecdmdgpmbgaaaaDoor
open Go.RowKit

theorem bcdf_any (l : List UInt8) (hf : allFig l = true) (hs : l.length ≤ 100000) (W : World) :
    Calls Tryd.prog 40 #[.string ⟨l.toArray⟩] W fun e W' => Ans W' e (packL gFig l) (packL gFig l).length (.int .i64 0) ∧ Below W.heap.size W W' := by
  refine (bcd5_any ⟨l.toArray⟩ W (by show l.toArray.size ≤ 1000000; simp; omega)).mono fun e W' h => ⟨?_, h.2⟩
  have h1 := h.1
  unfold PackR at h1
  rw [okL_fig] at h1
  rw [if_pos (show allFig (⟨l.toArray⟩ : ByteArray).data.toList = true from hf)] at h1
  exact Ans.of _ h1 rfl

/-- a shape, just laid into a block -/
theorem box_shape (W : World) (L : Int) (P : Bool) (F : Value) : ∃ V, V = W.alloc (.cells #[.int .i64 L, .bool P, F] 61) ∧ Below W.heap.size W V ∧ V.heap[W.heap.size]? = some (.cells #[.int .i64 L, .bool P, F] 61 (0, 0)) :=
  ⟨_, rfl, (Below.refl W.heap.size W).alloc (Nat.le_refl _) _, heap_alloc_new W _⟩

set_option maxRecDepth 100000 in
theorem count5_any (k m g : Nat) (hm : 0 < cntF k → m < 10 ^ cntF k) (hm9 : m ≤ 100000) (W : World) :
    Calls Tryd.prog 25 #[shV k g, .int .i64 (m : Int)] W fun e W' => AnsB5 W' e (headF k m) (headF k m).length ∧ Below W.heap.size W W' := by
  unfold shV mayV
  generalize decide (k ≤ 2) = P at *
  by_cases hz : cntF k = 0
  · have he : headF k m = [] := by unfold headF; rw [if_neg (by omega)]
    rw [he, hz]
    clear he hz hm
    have HB := Lib.hid (fun (o : Obj) => (Below.refl W.heap.size W).alloc (Nat.le_refl _) o)
    go_enter Tryd.func25, Tryd.ntmps25
    go_wp2
    go_ret
    exact ⟨⟨none, 0, rfl, Nat.le_refl _, by omega, Rd.nil⟩, HB.out _⟩
  · have hL : 1 ≤ cntF k ∧ cntF k ≤ 18 := by rcases cnt_cases k with ⟨e, -⟩ | ⟨e, -⟩ | ⟨e, -⟩ <;> omega
    have he : headF k m = packL gFig (dgL 48 10 m (cntF k)) := by unfold headF; rw [if_pos (by omega)]
    have CD := Lib.hid (fun w => (show Calls Tryd.prog 39 #[.int .i64 (m : Int), .int .i64 (cntF k : Nat)] w fun e W' => e = .returned (.tuple #[.string ⟨(dgL 48 10 m (cntF k)).toArray⟩, .int .i64 0]) ∧ Below w.heap.size w W' from
      (digits_any m (cntF k) w hL.1 hL.2 (by omega)).mono fun e W' h => ⟨by rw [h.1]; unfold digitsV; rw [if_pos (hm (by omega))], h.2⟩))
    have CB := Lib.hid (fun w => bcdf_any (dgL 48 10 m (cntF k)) (dgL_fig m (cntF k)) (by rw [dgL_length]; omega) w)
    rw [← he] at CB
    have hz0 : ¬ ((cntF k : Nat) : Int) = 0 := by omega
    clear hm he hz hL
    generalize headF k m = H at *
    generalize dgL 48 10 m (cntF k) = D at *
    generalize cntF k = L at *
    generalize H.length = N at *
    obtain ⟨V, hV, hb, hs⟩ := box_shape W L P (.func (.func 46) #[] #[.pointer (some ⟨g, 0, none⟩), .pointer (some ⟨g + 1, 0, none⟩)])
    obtain ⟨x0, -, -⟩ := cellsS hs
    have HB := Lib.hid hb
    have HV := Lib.hid hV
    clear hb hV hs
    go_enter Tryd.func25, Tryd.ntmps25
    go_wp2_with fail
    rw [← HV.out]
    refine (CD.out _).mono ?_
    rintro e w1 ⟨rfl, hb⟩
    have HB1 := Lib.hid (bel5 HB.out hb HB.out.size)
    clear hb HB CD x0 HV
    go_wp2_with fail
    refine (CB.out _).mono ?_
    rintro e w2 ⟨⟨A1, c1, rfl, h1, h2, h3⟩, hb⟩
    have HB2 := Lib.hid (bel5 HB1.out hb HB1.out.size)
    have HR := Lib.hid h3
    clear hb HB1 CB h3
    go_wp2_with fail
    go_ret
    exact ⟨⟨A1, c1, rfl, h1, h2, HR.out⟩, HB2.out⟩

set_option maxRecDepth 100000 in
theorem itself5_any (k g : Nat) (A : Option Addr) (v : List UInt8) (c : Nat) (hf : k ≤ 2 → allFig v = true) (W : World) (hl : v.length ≤ 10000) (hc : v.length ≤ c) (hcm : c ≤ 9223372036854775807) (hr : Rd W W.heap.size A v) :
    Calls Tryd.prog 26 #[shV k g, .slice A v.length c] W fun e W' => AnsB5 W' e (bodyF k v) (bodyF k v).length ∧ Below W.heap.size W W' := by
  unfold shV mayV
  generalize cntF k = L at *
  by_cases hk : k ≤ 2
  · have he : bodyF k v = packL gFig v := by unfold bodyF; rw [if_pos hk]
    rw [decide_eq_true hk, he]
    have CB := Lib.hid (fun w => bcdf_any v (hf hk) (by omega) w)
    have HS := Lib.hid (fun w (h : Below W.heap.size W w) => run_str (P := Tryd.prog) (hr.below h (Nat.le_refl _)) c _ _ _ Tryd.underlying22 Tryd.underlying5 Tryd.underlying9)
    clear he hk hf hr
    obtain ⟨V, hV, hb, hs⟩ := box_shape W L true (.func (.func 46) #[] #[.pointer (some ⟨g, 0, none⟩), .pointer (some ⟨g + 1, 0, none⟩)])
    have hstr := HS.out V hb
    obtain ⟨-, x1, -⟩ := cellsS hs
    have HB := Lib.hid hb
    clear hb HS hs
    generalize packL gFig v = Q at *
    generalize v.toArray = VA at *
    generalize v.length = m at *
    generalize Q.length = N at *
    have HV := Lib.hid hV
    rw [hV] at hstr x1
    clear hV
    go_enter Tryd.func26, Tryd.ntmps26
    go_wp2_with fail
    rw [← HV.out]
    refine (CB.out _).mono ?_
    rintro e w2 ⟨⟨A1, c1, rfl, h1, h2, h3⟩, hb⟩
    have HB2 := Lib.hid (bel5 HB.out hb HB.out.size)
    have HR := Lib.hid h3
    clear hb HB CB h3 hstr x1
    go_wp2_with fail
    go_ret
    exact ⟨⟨A1, c1, rfl, h1, h2, HR.out⟩, HB2.out⟩
  · have he : bodyF k v = v := by unfold bodyF; rw [if_neg hk]
    rw [decide_eq_false hk, he]
    have HB := Lib.hid (fun (o : Obj) => (Below.refl W.heap.size W).alloc (Nat.le_refl _) o)
    have HR := Lib.hid (fun w (h : Below W.heap.size W w) => (hr.below h (Nat.le_refl _)).more h.size)
    clear he hk hf hr
    generalize v.length = m at *
    go_enter Tryd.func26, Tryd.ntmps26
    go_wp2
    go_ret
    exact ⟨⟨A, c, rfl, hc, hcm, HR.out _ (HB.out _)⟩, HB.out _⟩
end Go.Proofs.YtecdmdgpmbgaaaaDoor
