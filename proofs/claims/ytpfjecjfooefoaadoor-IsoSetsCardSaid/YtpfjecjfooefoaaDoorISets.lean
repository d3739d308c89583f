
/- IsoSets' walk. -/
import Derived.Test.YtpfjecjfooefoaaDoorJ40
namespace Go.Proofs.YtpfjecjfooefoaaDoor
open Go.RowKit

set_option maxRecDepth 100000 in
set_option maxHeartbeats 4000000 in
theorem isoSets_walk (t : Int) (A : Option Addr) (l : List Fl) (c : Nat) (no : Int) (B : Option Addr) (v : List UInt8) (d : Nat) (W : World) (ht : -9223372036854775808 ≤ t ∧ t ≤ 9223372036854775807) (hc : l.length ≤ c) (hcm : c ≤ 9223372036854775807) (hz : I64f l) (hr : RdF W W.heap.size A l) (hno : -9223372036854775808 ≤ no ∧ no ≤ 9223372036854775807) (hd : v.length ≤ d) (hdm : d ≤ 9223372036854775807) (hs : Rd W W.heap.size B v) (hT : Tb W) :
    Calls Tryd.prog 5 #[.agg #[.int .i64 t, .slice A l.length c], .int .i64 no, .slice B v.length d] W fun e W' => e = .returned (.bool true) ∧ Below W.heap.size W W' := by
  have HT := Lib.hid hT
  have R0 := Lib.hid hr
  have S0 := Lib.hid hs
  have CF := Lib.hid (fun w (hB : Below W.heap.size W w) (h : RdF w w.heap.size A l) => refFew_any t A l c w hc hcm h)
  by_cases hF : fewF l = true
  case neg =>
    rw [Bool.not_eq_true] at hF
    rw [hF] at CF
    clear hr hs hc hz hd hcm hdm
    obtain ⟨n, hn⟩ : ∃ n, n = l.length := ⟨_, rfl⟩
    rw [← hn] at CF ⊢
    clear hn
    generalize v.length = m at *
    have hb := (Below.refl W.heap.size W).alloc (Nat.le_refl _) (.cells #[.int .i64 t, .slice A n c] 24)
    have hg := heap_alloc_new W (.cells #[.int .i64 t, .slice A n c] 24)
    obtain ⟨V0, hV⟩ : ∃ V, V = W.alloc (.cells #[.int .i64 t, .slice A n c] 24) := ⟨_, rfl⟩
    rw [← hV] at hb hg
    have HB := Lib.hid hb
    have G0 := Lib.hid hg
    have nR0 := Lib.hid ((R0.out.below hb (Nat.le_refl _)).more hb.size)
    have nS0 := Lib.hid ((S0.out.below hb (Nat.le_refl _)).more hb.size)
    have HV := Lib.hid hV
    clear hb hg hV
    clear R0 S0
    have R0 := nR0
    have S0 := nS0
    clear nR0 nS0
    go_enter Tryd.func5, Tryd.ntmps5
    go_wp2_with fail
    rw [← HV.out]
    clear HV
    refine (shown7_any _ (HT.out.below HB.out)).mono ?_
    rintro e w1 ⟨rfl, hb⟩
    have nHB := Lib.hid (belG HB.out hb HB.out.size)
    have nR0 := Lib.hid ((R0.out.below hb (Nat.le_refl _)).more hb.size)
    have nS0 := Lib.hid ((S0.out.below hb (Nat.le_refl _)).more hb.size)
    have nG0 := Lib.hid (oldG G0.out hb (Nat.le_refl _))
    clear hb
    clear HB R0 S0 G0
    have HB := nHB
    have R0 := nR0
    have S0 := nS0
    have G0 := nG0
    clear nHB nR0 nS0 nG0
    obtain ⟨g0x, g0y⟩ := cG2 G0.out
    go_wp2_with fail
    clear g0x g0y
    refine (CF.out _ HB.out R0.out).mono ?_
    rintro e w2 ⟨rfl, hb⟩
    have nHB := Lib.hid (belG HB.out hb HB.out.size)
    have nR0 := Lib.hid ((R0.out.below hb (Nat.le_refl _)).more hb.size)
    have nS0 := Lib.hid ((S0.out.below hb (Nat.le_refl _)).more hb.size)
    have nG0 := Lib.hid (oldG G0.out hb (Nat.le_refl _))
    clear hb
    clear HB R0 S0 G0
    have HB := nHB
    have R0 := nR0
    have S0 := nS0
    have G0 := nG0
    clear nHB nR0 nS0 nG0
    go_wp2_with fail
    go_ret
    exact ⟨rfl, HB.out⟩
  have hok := few_ok hF hz
  obtain ⟨hl40, hl450⟩ := few_parts hF
  rw [hF] at CF
  have CR := Lib.hid (fun w (hB : Below W.heap.size W w) (h : RdF w w.heap.size A l) => refRightM_any t A l c w ht (by omega) (fun x hx => by have := hl450 x hx; omega) hc hcm h)
  by_cases hR : RightM t l
  case neg =>
    rw [decide_eq_false hR] at CR
    clear hr hs hc hz hd hcm hdm hF hok hl40 hl450 hR
    obtain ⟨n, hn⟩ : ∃ n, n = l.length := ⟨_, rfl⟩
    rw [← hn] at CF CR ⊢
    clear hn
    generalize v.length = m at *
    have hb := (Below.refl W.heap.size W).alloc (Nat.le_refl _) (.cells #[.int .i64 t, .slice A n c] 24)
    have hg := heap_alloc_new W (.cells #[.int .i64 t, .slice A n c] 24)
    obtain ⟨V0, hV⟩ : ∃ V, V = W.alloc (.cells #[.int .i64 t, .slice A n c] 24) := ⟨_, rfl⟩
    rw [← hV] at hb hg
    have HB := Lib.hid hb
    have G0 := Lib.hid hg
    have nR0 := Lib.hid ((R0.out.below hb (Nat.le_refl _)).more hb.size)
    have nS0 := Lib.hid ((S0.out.below hb (Nat.le_refl _)).more hb.size)
    have HV := Lib.hid hV
    clear hb hg hV
    clear R0 S0
    have R0 := nR0
    have S0 := nS0
    clear nR0 nS0
    go_enter Tryd.func5, Tryd.ntmps5
    go_wp2_with fail
    rw [← HV.out]
    clear HV
    refine (shown7_any _ (HT.out.below HB.out)).mono ?_
    rintro e w1 ⟨rfl, hb⟩
    have nHB := Lib.hid (belG HB.out hb HB.out.size)
    have nR0 := Lib.hid ((R0.out.below hb (Nat.le_refl _)).more hb.size)
    have nS0 := Lib.hid ((S0.out.below hb (Nat.le_refl _)).more hb.size)
    have nG0 := Lib.hid (oldG G0.out hb (Nat.le_refl _))
    clear hb
    clear HB R0 S0 G0
    have HB := nHB
    have R0 := nR0
    have S0 := nS0
    have G0 := nG0
    clear nHB nR0 nS0 nG0
    obtain ⟨g0x, g0y⟩ := cG2 G0.out
    go_wp2_with fail
    clear g0x g0y
    refine (CF.out _ HB.out R0.out).mono ?_
    rintro e w2 ⟨rfl, hb⟩
    have nHB := Lib.hid (belG HB.out hb HB.out.size)
    have nR0 := Lib.hid ((R0.out.below hb (Nat.le_refl _)).more hb.size)
    have nS0 := Lib.hid ((S0.out.below hb (Nat.le_refl _)).more hb.size)
    have nG0 := Lib.hid (oldG G0.out hb (Nat.le_refl _))
    clear hb
    clear HB R0 S0 G0
    have HB := nHB
    have R0 := nR0
    have S0 := nS0
    have G0 := nG0
    clear nHB nR0 nS0 nG0
    obtain ⟨g0x, g0y⟩ := cG2 G0.out
    go_wp2_with fail
    clear g0x g0y
    refine (CR.out _ HB.out R0.out).mono ?_
    rintro e w3 ⟨rfl, hb⟩
    have nHB := Lib.hid (belG HB.out hb HB.out.size)
    have nR0 := Lib.hid ((R0.out.below hb (Nat.le_refl _)).more hb.size)
    have nS0 := Lib.hid ((S0.out.below hb (Nat.le_refl _)).more hb.size)
    have nG0 := Lib.hid (oldG G0.out hb (Nat.le_refl _))
    clear hb
    clear HB R0 S0 G0
    have HB := nHB
    have R0 := nR0
    have S0 := nS0
    have G0 := nG0
    clear nHB nR0 nS0 nG0
    go_wp2_with fail
    go_ret
    exact ⟨rfl, HB.out⟩
  rw [decide_eq_true hR] at CR
  by_cases h450 : 450 < v.length
  case pos =>
    have i0 : (450 : Int) < (v.length : Int) := by omega
    clear hr hs hc hz hd hcm hdm hF hok hl40 hl450 hR
    obtain ⟨n, hn⟩ : ∃ n, n = l.length := ⟨_, rfl⟩
    rw [← hn] at CF CR ⊢
    clear hn
    generalize v.length = m at *
    have hb := (Below.refl W.heap.size W).alloc (Nat.le_refl _) (.cells #[.int .i64 t, .slice A n c] 24)
    have hg := heap_alloc_new W (.cells #[.int .i64 t, .slice A n c] 24)
    obtain ⟨V0, hV⟩ : ∃ V, V = W.alloc (.cells #[.int .i64 t, .slice A n c] 24) := ⟨_, rfl⟩
    rw [← hV] at hb hg
    have HB := Lib.hid hb
    have G0 := Lib.hid hg
    have nR0 := Lib.hid ((R0.out.below hb (Nat.le_refl _)).more hb.size)
    have nS0 := Lib.hid ((S0.out.below hb (Nat.le_refl _)).more hb.size)
    have HV := Lib.hid hV
    clear hb hg hV
    clear R0 S0
    have R0 := nR0
    have S0 := nS0
    clear nR0 nS0
    go_enter Tryd.func5, Tryd.ntmps5
    go_wp2_with fail
    rw [← HV.out]
    clear HV
    refine (shown7_any _ (HT.out.below HB.out)).mono ?_
    rintro e w1 ⟨rfl, hb⟩
    have nHB := Lib.hid (belG HB.out hb HB.out.size)
    have nR0 := Lib.hid ((R0.out.below hb (Nat.le_refl _)).more hb.size)
    have nS0 := Lib.hid ((S0.out.below hb (Nat.le_refl _)).more hb.size)
    have nG0 := Lib.hid (oldG G0.out hb (Nat.le_refl _))
    clear hb
    clear HB R0 S0 G0
    have HB := nHB
    have R0 := nR0
    have S0 := nS0
    have G0 := nG0
    clear nHB nR0 nS0 nG0
    obtain ⟨g0x, g0y⟩ := cG2 G0.out
    go_wp2_with fail
    clear g0x g0y
    refine (CF.out _ HB.out R0.out).mono ?_
    rintro e w2 ⟨rfl, hb⟩
    have nHB := Lib.hid (belG HB.out hb HB.out.size)
    have nR0 := Lib.hid ((R0.out.below hb (Nat.le_refl _)).more hb.size)
    have nS0 := Lib.hid ((S0.out.below hb (Nat.le_refl _)).more hb.size)
    have nG0 := Lib.hid (oldG G0.out hb (Nat.le_refl _))
    clear hb
    clear HB R0 S0 G0
    have HB := nHB
    have R0 := nR0
    have S0 := nS0
    have G0 := nG0
    clear nHB nR0 nS0 nG0
    obtain ⟨g0x, g0y⟩ := cG2 G0.out
    go_wp2_with fail
    clear g0x g0y
    refine (CR.out _ HB.out R0.out).mono ?_
    rintro e w3 ⟨rfl, hb⟩
    have nHB := Lib.hid (belG HB.out hb HB.out.size)
    have nR0 := Lib.hid ((R0.out.below hb (Nat.le_refl _)).more hb.size)
    have nS0 := Lib.hid ((S0.out.below hb (Nat.le_refl _)).more hb.size)
    have nG0 := Lib.hid (oldG G0.out hb (Nat.le_refl _))
    clear hb
    clear HB R0 S0 G0
    have HB := nHB
    have R0 := nR0
    have S0 := nS0
    have G0 := nG0
    clear nHB nR0 nS0 nG0
    go_wp2_with fail
    go_ret
    exact ⟨rfl, HB.out⟩
  have i0 : ¬ (450 : Int) < (v.length : Int) := by omega
  have C1 := Lib.hid (fun w (hB : Below W.heap.size W w) (h : RdF w w.heap.size A l) (hs : Rd w w.heap.size B v) => iSet_any t A l c no B v d w hR hc hcm h hno (by omega) hd hdm hs (hT.below hB))
  have C2 := Lib.hid (fun w (hB : Below W.heap.size W w) (h : RdF w w.heap.size A l) (hs : Rd w w.heap.size B v) => refSet_any t A l c no B v d w (by omega) hc hcm h (by omega) hd hdm hs)
  have CG1 := Lib.hid (fun w (hB : Below W.heap.size W w) (h : RdF w w.heap.size A l) => iGet_any t A l c no w hR hc hcm h hno (hT.below hB))
  have CG2 := Lib.hid (fun w (hB : Below W.heap.size W w) (h : RdF w w.heap.size A l) => refGet_any t A l c no w hc hcm h)
  have CD1 := Lib.hid (fun w (hB : Below W.heap.size W w) (h : RdF w w.heap.size A l) => iDrop_any t A l c no w hR hc hcm h hno (hT.below hB))
  have CD2 := Lib.hid (fun w (hB : Below W.heap.size W w) (h : RdF w w.heap.size A l) => refDrop_any t A l c no w (by omega) hc hcm h)
  have SM := Lib.hid (fun (A1 A2 : Option Addr) (c1 c2 : Nat) w (hB : Below W.heap.size W w) (p1 : (setM l no v).length ≤ c1) (p2 : c1 ≤ 9223372036854775807) (h1 : RdF w w.heap.size A1 (setM l no v)) (h2 : RdF w w.heap.size A2 (setM l no v)) => refSameM_any t t A1 A2 (setM l no v) (setM l no v) c1 c2 w p1 p2 h1 h2)
  have SD := Lib.hid (fun (A1 A2 : Option Addr) (c1 c2 : Nat) w (hB : Below W.heap.size W w) (p1 : (dropF l no).length ≤ c1) (p2 : c1 ≤ 9223372036854775807) (h1 : RdF w w.heap.size A1 (dropF l no)) (h2 : RdF w w.heap.size A2 (dropF l no)) => refSameM_any t t A1 A2 (dropF l no) (dropF l no) c1 c2 w p1 p2 h1 h2)
  have SB := Lib.hid (fun (A1 A2 : Option Addr) (c1 c2 : Nat) w (hB : Below W.heap.size W w) (h1 : Rd w w.heap.size A1 (getL l no)) (h2 : Rd w w.heap.size A2 (getL l no)) => same_any A1 A2 (getL l no) (getL l no) c1 c2 _ _ w h1 h2)
  simp only [and_self, decide_true] at SM SD SB
  unfold AnsMx at C1 C2
  unfold AnsM at CD1 CD2
  clear hr hs hc hz hd hcm hdm hF hok hl40 hl450 hR h450
  generalize setM l no v = L2 at *
  generalize setE no v = E at *
  generalize getL l no = GV at *
  generalize getY l no = Y at *
  generalize dropF l no = D at *
  generalize L2.length = n2 at *
  generalize D.length = nd at *
  generalize GV.length = ng at *
  generalize v.length = m at *
  obtain ⟨n, hn⟩ : ∃ n, n = l.length := ⟨_, rfl⟩
  rw [← hn] at CF CR C1 C2 CG1 CG2 CD1 CD2 ⊢
  clear hn
  have eE : ((E : Int) == (E : Int)) = true := by simp
  have eY : (Y == Y) = true := by simp
  have hb := (Below.refl W.heap.size W).alloc (Nat.le_refl _) (.cells #[.int .i64 t, .slice A n c] 24)
  have hg := heap_alloc_new W (.cells #[.int .i64 t, .slice A n c] 24)
  obtain ⟨V0, hV⟩ : ∃ V, V = W.alloc (.cells #[.int .i64 t, .slice A n c] 24) := ⟨_, rfl⟩
  rw [← hV] at hb hg
  have HB := Lib.hid hb
  have G0 := Lib.hid hg
  have nR0 := Lib.hid ((R0.out.below hb (Nat.le_refl _)).more hb.size)
  have nS0 := Lib.hid ((S0.out.below hb (Nat.le_refl _)).more hb.size)
  have HV := Lib.hid hV
  clear hb hg hV
  clear R0 S0
  have R0 := nR0
  have S0 := nS0
  clear nR0 nS0
  go_enter Tryd.func5, Tryd.ntmps5
  go_wp2_with fail
  rw [← HV.out]
  clear HV
  refine (shown7_any _ (HT.out.below HB.out)).mono ?_
  rintro e w1 ⟨rfl, hb⟩
  have nHB := Lib.hid (belG HB.out hb HB.out.size)
  have nR0 := Lib.hid ((R0.out.below hb (Nat.le_refl _)).more hb.size)
  have nS0 := Lib.hid ((S0.out.below hb (Nat.le_refl _)).more hb.size)
  have nG0 := Lib.hid (oldG G0.out hb (Nat.le_refl _))
  clear hb
  clear HB R0 S0 G0
  have HB := nHB
  have R0 := nR0
  have S0 := nS0
  have G0 := nG0
  clear nHB nR0 nS0 nG0
  obtain ⟨g0x, g0y⟩ := cG2 G0.out
  go_wp2_with fail
  clear g0x g0y
  refine (CF.out _ HB.out R0.out).mono ?_
  rintro e w2 ⟨rfl, hb⟩
  have nHB := Lib.hid (belG HB.out hb HB.out.size)
  have nR0 := Lib.hid ((R0.out.below hb (Nat.le_refl _)).more hb.size)
  have nS0 := Lib.hid ((S0.out.below hb (Nat.le_refl _)).more hb.size)
  have nG0 := Lib.hid (oldG G0.out hb (Nat.le_refl _))
  clear hb
  clear HB R0 S0 G0
  have HB := nHB
  have R0 := nR0
  have S0 := nS0
  have G0 := nG0
  clear nHB nR0 nS0 nG0
  obtain ⟨g0x, g0y⟩ := cG2 G0.out
  go_wp2_with fail
  clear g0x g0y
  refine (CR.out _ HB.out R0.out).mono ?_
  rintro e w3 ⟨rfl, hb⟩
  have nHB := Lib.hid (belG HB.out hb HB.out.size)
  have nR0 := Lib.hid ((R0.out.below hb (Nat.le_refl _)).more hb.size)
  have nS0 := Lib.hid ((S0.out.below hb (Nat.le_refl _)).more hb.size)
  have nG0 := Lib.hid (oldG G0.out hb (Nat.le_refl _))
  clear hb
  clear HB R0 S0 G0
  have HB := nHB
  have R0 := nR0
  have S0 := nS0
  have G0 := nG0
  clear nHB nR0 nS0 nG0
  obtain ⟨g0x, g0y⟩ := cG2 G0.out
  go_wp2_with fail
  clear g0x g0y
  refine (C1.out _ HB.out R0.out S0.out).mono ?_
  rintro e w4 ⟨⟨A1, c1, rfl, p1, p2, h1⟩, hb⟩
  have nHB := Lib.hid (belG HB.out hb HB.out.size)
  have nR0 := Lib.hid ((R0.out.below hb (Nat.le_refl _)).more hb.size)
  have nS0 := Lib.hid ((S0.out.below hb (Nat.le_refl _)).more hb.size)
  have nG0 := Lib.hid (oldG G0.out hb (Nat.le_refl _))
  clear hb
  clear HB R0 S0 G0
  have HB := nHB
  have R0 := nR0
  have S0 := nS0
  have G0 := nG0
  clear nHB nR0 nS0 nG0
  have R1 := Lib.hid h1
  clear h1
  obtain ⟨V4, hV4⟩ : ∃ V, V = w4.alloc (.cells #[.int .i64 t, .slice A1 n2 c1] 24) := ⟨_, rfl⟩
  have ha := (Below.refl w4.heap.size w4).alloc (Nat.le_refl _) (.cells #[.int .i64 t, .slice A1 n2 c1] 24)
  have hg := heap_alloc_new w4 (.cells #[.int .i64 t, .slice A1 n2 c1] 24)
  have nHB := Lib.hid (HB.out.alloc HB.out.size (.cells #[.int .i64 t, .slice A1 n2 c1] 24))
  rw [← hV4] at ha hg nHB
  have nR0 := Lib.hid ((R0.out.below ha (Nat.le_refl _)).more ha.size)
  have nS0 := Lib.hid ((S0.out.below ha (Nat.le_refl _)).more ha.size)
  have nR1 := Lib.hid ((R1.out.below ha (Nat.le_refl _)).more ha.size)
  have nG0 := Lib.hid (oldG G0.out ha (Nat.le_refl _))
  obtain ⟨g1, hg1⟩ : ∃ g, g = w4.heap.size := ⟨_, rfl⟩
  rw [← hg1] at hg
  have HXG1 := Lib.hid hg1
  have G1 := Lib.hid hg
  have HV := Lib.hid hV4
  clear ha hg hV4 hg1
  clear HB R0 S0 R1 G0
  have HB := nHB
  have R0 := nR0
  have S0 := nS0
  have R1 := nR1
  have G0 := nG0
  clear nHB nR0 nS0 nR1 nG0
  obtain ⟨g0x, g0y⟩ := cG2 G0.out
  rw [HV.out] at g0x g0y
  go_wp2_with fail
  clear g0x g0y
  rw [← HV.out]
  (try rw [← HXG1.out])
  clear HV HXG1
  refine (C2.out _ HB.out R0.out S0.out).mono ?_
  rintro e w5 ⟨⟨A2, c2, rfl, p3, p4, h2⟩, hb⟩
  have nHB := Lib.hid (belG HB.out hb HB.out.size)
  have nR0 := Lib.hid ((R0.out.below hb (Nat.le_refl _)).more hb.size)
  have nS0 := Lib.hid ((S0.out.below hb (Nat.le_refl _)).more hb.size)
  have nR1 := Lib.hid ((R1.out.below hb (Nat.le_refl _)).more hb.size)
  have nG0 := Lib.hid (oldG G0.out hb (Nat.le_refl _))
  have nG1 := Lib.hid (oldG G1.out hb (Nat.le_refl _))
  clear hb
  clear HB R0 S0 R1 G0 G1
  have HB := nHB
  have R0 := nR0
  have S0 := nS0
  have R1 := nR1
  have G0 := nG0
  have G1 := nG1
  clear nHB nR0 nS0 nR1 nG0 nG1
  have R2 := Lib.hid h2
  clear h2
  obtain ⟨V5, hV5⟩ : ∃ V, V = w5.alloc (.cells #[.int .i64 t, .slice A2 n2 c2] 24) := ⟨_, rfl⟩
  have ha := (Below.refl w5.heap.size w5).alloc (Nat.le_refl _) (.cells #[.int .i64 t, .slice A2 n2 c2] 24)
  have hg := heap_alloc_new w5 (.cells #[.int .i64 t, .slice A2 n2 c2] 24)
  have nHB := Lib.hid (HB.out.alloc HB.out.size (.cells #[.int .i64 t, .slice A2 n2 c2] 24))
  rw [← hV5] at ha hg nHB
  have nR0 := Lib.hid ((R0.out.below ha (Nat.le_refl _)).more ha.size)
  have nS0 := Lib.hid ((S0.out.below ha (Nat.le_refl _)).more ha.size)
  have nR1 := Lib.hid ((R1.out.below ha (Nat.le_refl _)).more ha.size)
  have nR2 := Lib.hid ((R2.out.below ha (Nat.le_refl _)).more ha.size)
  have nG0 := Lib.hid (oldG G0.out ha (Nat.le_refl _))
  have nG1 := Lib.hid (oldG G1.out ha (Nat.le_refl _))
  obtain ⟨g2, hg2⟩ : ∃ g, g = w5.heap.size := ⟨_, rfl⟩
  rw [← hg2] at hg
  have HXG2 := Lib.hid hg2
  have G2 := Lib.hid hg
  have HV := Lib.hid hV5
  clear ha hg hV5 hg2
  clear HB R0 S0 R1 R2 G0 G1
  have HB := nHB
  have R0 := nR0
  have S0 := nS0
  have R1 := nR1
  have R2 := nR2
  have G0 := nG0
  have G1 := nG1
  clear nHB nR0 nS0 nR1 nR2 nG0 nG1
  obtain ⟨g0x, g0y⟩ := cG2 G0.out
  rw [HV.out] at g0x g0y
  go_wp2_with fail
  clear g0x g0y
  rw [← HV.out]
  (try rw [← HXG2.out])
  clear HV HXG2
  refine (CG1.out _ HB.out R0.out).mono ?_
  rintro e w6 ⟨⟨A3, c3, rfl, -, -, h3⟩, hb⟩
  have nHB := Lib.hid (belG HB.out hb HB.out.size)
  have nR0 := Lib.hid ((R0.out.below hb (Nat.le_refl _)).more hb.size)
  have nS0 := Lib.hid ((S0.out.below hb (Nat.le_refl _)).more hb.size)
  have nR1 := Lib.hid ((R1.out.below hb (Nat.le_refl _)).more hb.size)
  have nR2 := Lib.hid ((R2.out.below hb (Nat.le_refl _)).more hb.size)
  have nG0 := Lib.hid (oldG G0.out hb (Nat.le_refl _))
  have nG1 := Lib.hid (oldG G1.out hb (Nat.le_refl _))
  have nG2 := Lib.hid (oldG G2.out hb (Nat.le_refl _))
  clear hb
  clear HB R0 S0 R1 R2 G0 G1 G2
  have HB := nHB
  have R0 := nR0
  have S0 := nS0
  have R1 := nR1
  have R2 := nR2
  have G0 := nG0
  have G1 := nG1
  have G2 := nG2
  clear nHB nR0 nS0 nR1 nR2 nG0 nG1 nG2
  have R3 := Lib.hid h3
  clear h3
  obtain ⟨g0x, g0y⟩ := cG2 G0.out
  go_wp2_with fail
  clear g0x g0y
  refine (CG2.out _ HB.out R0.out).mono ?_
  rintro e w7 ⟨⟨A4, c4, rfl, -, -, h4⟩, hb⟩
  have nHB := Lib.hid (belG HB.out hb HB.out.size)
  have nR0 := Lib.hid ((R0.out.below hb (Nat.le_refl _)).more hb.size)
  have nS0 := Lib.hid ((S0.out.below hb (Nat.le_refl _)).more hb.size)
  have nR1 := Lib.hid ((R1.out.below hb (Nat.le_refl _)).more hb.size)
  have nR2 := Lib.hid ((R2.out.below hb (Nat.le_refl _)).more hb.size)
  have nR3 := Lib.hid ((R3.out.below hb (Nat.le_refl _)).more hb.size)
  have nG0 := Lib.hid (oldG G0.out hb (Nat.le_refl _))
  have nG1 := Lib.hid (oldG G1.out hb (Nat.le_refl _))
  have nG2 := Lib.hid (oldG G2.out hb (Nat.le_refl _))
  clear hb
  clear HB R0 S0 R1 R2 R3 G0 G1 G2
  have HB := nHB
  have R0 := nR0
  have S0 := nS0
  have R1 := nR1
  have R2 := nR2
  have R3 := nR3
  have G0 := nG0
  have G1 := nG1
  have G2 := nG2
  clear nHB nR0 nS0 nR1 nR2 nR3 nG0 nG1 nG2
  have R4 := Lib.hid h4
  clear h4
  have BB0 := Lib.hid ((Below.refl w7.heap.size w7).drew)
  have F0 := Lib.hid (fun w (h : Below w7.heap.size w7 w) => belG HB.out h HB.out.size)
  have FR0 := Lib.hid (fun w (h : Below w7.heap.size w7 w) => (R0.out.below h (Nat.le_refl _)).more h.size)
  have FS0 := Lib.hid (fun w (h : Below w7.heap.size w7 w) => (S0.out.below h (Nat.le_refl _)).more h.size)
  have FR1 := Lib.hid (fun w (h : Below w7.heap.size w7 w) => (R1.out.below h (Nat.le_refl _)).more h.size)
  have FR2 := Lib.hid (fun w (h : Below w7.heap.size w7 w) => (R2.out.below h (Nat.le_refl _)).more h.size)
  have FR3 := Lib.hid (fun w (h : Below w7.heap.size w7 w) => (R3.out.below h (Nat.le_refl _)).more h.size)
  have FR4 := Lib.hid (fun w (h : Below w7.heap.size w7 w) => (R4.out.below h (Nat.le_refl _)).more h.size)
  have KEEP := Lib.hid (fun w' (h : Below w7.heap.size w7 w') => (show Below w7.heap.size w7 w' ∧ w'.cell? ⟨W.heap.size, 0, none⟩ = some (.int .i64 t) ∧ w'.cell? ⟨W.heap.size, 1, none⟩ = some (.slice A n c) ∧ w'.cell? ⟨g1, 0, none⟩ = some (.int .i64 t) ∧ w'.cell? ⟨g1, 1, none⟩ = some (.slice A1 n2 c1) ∧ w'.cell? ⟨g2, 0, none⟩ = some (.int .i64 t) ∧ w'.cell? ⟨g2, 1, none⟩ = some (.slice A2 n2 c2) from by
    obtain ⟨z0, u0⟩ := cG2 (oldG G0.out h (Nat.le_refl _))
    obtain ⟨z1, u1⟩ := cG2 (oldG G1.out h (Nat.le_refl _))
    obtain ⟨z2, u2⟩ := cG2 (oldG G2.out h (Nat.le_refl _))
    exact ⟨h, z0, u0, z1, u1, z2, u2⟩))
  go_wp2_with fail
  go_region_held3 (fun w' => Below w7.heap.size w7 w' ∧ w'.cell? ⟨W.heap.size, 0, none⟩ = some (.int .i64 t) ∧ w'.cell? ⟨W.heap.size, 1, none⟩ = some (.slice A n c) ∧ w'.cell? ⟨g1, 0, none⟩ = some (.int .i64 t) ∧ w'.cell? ⟨g1, 1, none⟩ = some (.slice A1 n2 c1) ∧ w'.cell? ⟨g2, 0, none⟩ = some (.int .i64 t) ∧ w'.cell? ⟨g2, 1, none⟩ = some (.slice A2 n2 c2))
    (first | with_reducible exact KEEP.out _ BB0.out | with_reducible exact KEEP.out _ BB1.out | with_reducible exact KEEP.out _ BB3.out | with_reducible exact KEEP.out _ BB4.out | with_reducible exact KEEP.out _ BB5.out)
    (first
    | (go_at_call 21; (with_reducible refine (SM.out A1 A2 c1 c2 _ (F0.out _ BB0.out) p1 p2 (FR1.out _ BB0.out) (FR2.out _ BB0.out)).mono ?_); rintro e wz0 ⟨rfl, hb⟩; have BB1 := Lib.hid (belG BB0.out hb BB0.out.size); clear hb)
    | (go_at_call 17; (with_reducible refine (SB.out A3 A4 c3 c4 _ (F0.out _ BB1.out) (FR3.out _ BB1.out) (FR4.out _ BB1.out)).mono ?_); rintro e wz1 ⟨rfl, rfl⟩)
    | (go_at_call 32; (with_reducible refine (CD1.out _ (F0.out _ BB1.out) (FR0.out _ BB1.out)).mono ?_); rintro e wz2 ⟨⟨A5, c5, rfl, p5, p6, h5⟩, hb⟩; have BB3 := Lib.hid (belG BB1.out hb BB1.out.size); have R5 := Lib.hid h5; clear h5; clear hb)
    | (go_at_call 33; (with_reducible refine (CD2.out _ (F0.out _ BB3.out) (FR0.out _ BB3.out)).mono ?_); rintro e wz3 ⟨⟨A6, c6, rfl, p7, p8, h6⟩, hb⟩; have BB4 := Lib.hid (belG BB3.out hb BB3.out.size); have nR5 := Lib.hid ((R5.out.below hb (Nat.le_refl _)).more hb.size); clear R5; have R5 := nR5; clear nR5; have R6 := Lib.hid h6; clear h6; clear hb)
    | (go_at_call 21; (with_reducible refine (SD.out A5 A6 c5 c6 _ (F0.out _ BB4.out) p5 p6 R5.out R6.out).mono ?_); rintro e wz4 ⟨rfl, hb⟩; have BB5 := Lib.hid (belG BB4.out hb BB4.out.size); have nR5 := Lib.hid ((R5.out.below hb (Nat.le_refl _)).more hb.size); clear R5; have R5 := nR5; clear nR5; have nR6 := Lib.hid ((R6.out.below hb (Nat.le_refl _)).more hb.size); clear R6; have R6 := nR6; clear nR6; clear hb))
  all_goals
    go_wp2_with fail
    go_ret
    exact ⟨by first | rfl | simp, F0.out _ BB5.out⟩
end Go.Proofs.YtpfjecjfooefoaaDoor
