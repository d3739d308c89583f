
/- RingTells' walk. -/
import Derived.Test.YtgnccfcdonoegaaJ12
namespace Go.Proofs.Ytgnccfcdonoegaa
open Go.RowKit

def tellC (xa : Wg) (a : Rg) (xb : Wg) (b : Rg) (no : Int) (A : Option Addr) (k : List UInt8) (c : Nat) : Array Value :=
  #[.int .i64 a.cur.no, .slice xa.cur.1 a.cur.key.length xa.cur.2, .int .i64 a.old.no, .slice xa.old.1 a.old.key.length xa.old.2, .int .i64 a.pend.no, .slice xa.pend.1 a.pend.key.length xa.pend.2, .int .i64 a.left, .int .i64 a.top,
    .int .i64 b.cur.no, .slice xb.cur.1 b.cur.key.length xb.cur.2, .int .i64 b.old.no, .slice xb.old.1 b.old.key.length xb.old.2, .int .i64 b.pend.no, .slice xb.pend.1 b.pend.key.length xb.pend.2, .int .i64 b.left, .int .i64 b.top,
    .int .i64 no, .slice A k.length c]
set_option maxRecDepth 100000 in
theorem tyTell : Ty 28 18 := ⟨⟨_, Try.underlying28, rfl⟩, by kernel_rfl⟩
set_option maxRecDepth 100000 in
theorem tell_a {xa : Wg} {a : Rg} {xb : Wg} {b : Rg} {no : Int} {A : Option Addr} {k : List UInt8} {c : Nat} : Part (tellC xa a xb b no A k c) 0 (ringC xa a) := fun j v h => by
  match j, h with
  | 0, h => exact h
  | 1, h => exact h
  | 2, h => exact h
  | 3, h => exact h
  | 4, h => exact h
  | 5, h => exact h
  | 6, h => exact h
  | 7, h => exact h
set_option maxRecDepth 100000 in
theorem tell_b {xa : Wg} {a : Rg} {xb : Wg} {b : Rg} {no : Int} {A : Option Addr} {k : List UInt8} {c : Nat} : Part (tellC xa a xb b no A k c) 8 (ringC xb b) := fun j v h => by
  match j, h with
  | 0, h => exact h
  | 1, h => exact h
  | 2, h => exact h
  | 3, h => exact h
  | 4, h => exact h
  | 5, h => exact h
  | 6, h => exact h
  | 7, h => exact h
set_option maxRecDepth 100000 in
theorem tell_n {xa : Wg} {a : Rg} {xb : Wg} {b : Rg} {no : Int} {A : Option Addr} {k : List UInt8} {c : Nat} : (tellC xa a xb b no A k c)[16]? = some (.int .i64 no) := rfl
set_option maxRecDepth 100000 in
theorem tell_k {xa : Wg} {a : Rg} {xb : Wg} {b : Rg} {no : Int} {A : Option Addr} {k : List UInt8} {c : Nat} : (tellC xa a xb b no A k c)[17]? = some (.slice A k.length c) := rfl
set_option maxRecDepth 100000 in
set_option maxHeartbeats 4000000 in
theorem ringTells_walk (xa xb : Wg) (a b : Rg) (no : Int) (A : Option Addr) (k : List UInt8) (c : Nat) (W : World) (ha64 : Rg64 a) (hb64 : Rg64 b) (hn : B64r no) (hra : RingR W xa a) (hrb : RingR W xb b) (hk : KeyR W (A, c) k) :
    Calls Try.prog 3 #[.agg (tellC xa a xb b no A k c)] W fun e W' => e = .returned (.bool true) ∧ Below W.heap.size W W' := by
  have RA := Lib.hid hra
  have RB := Lib.hid hrb
  have RK := Lib.hid hk
  clear hra hrb hk
  have HCN := Lib.hid (tell_n (xa := xa) (a := a) (xb := xb) (b := b) (no := no) (A := A) (k := k) (c := c))
  have HCK := Lib.hid (tell_k (xa := xa) (a := a) (xb := xb) (b := b) (no := no) (A := A) (k := k) (c := c))
  have PA := Lib.hid (tell_a (xa := xa) (a := a) (xb := xb) (b := b) (no := no) (A := A) (k := k) (c := c))
  have PB := Lib.hid (tell_b (xa := xa) (a := a) (xb := xb) (b := b) (no := no) (A := A) (k := k) (c := c))
  have HFA := Lib.hid (fun w => few11_any xa a w)
  have HFB := Lib.hid (fun w => few11_any xb b w)
  have HRA := Lib.hid (fun w => right11_any xa a w)
  have H64 := Lib.hid ha64
  have H65 := Lib.hid hb64
  have HBN := Lib.hid hn
  clear ha64 hb64 hn
  obtain ⟨CC, hCC⟩ : ∃ CC, CC = tellC xa a xb b no A k c := ⟨_, rfl⟩
  rw [← hCC] at HCN HCK PA PB ⊢
  have HSZ := Lib.hid (show CC.size = 18 from by rw [hCC]; rfl)
  clear hCC
  obtain ⟨m, hm⟩ : ∃ m, m = k.length := ⟨_, rfl⟩
  rw [← hm] at HCK
  have HM := Lib.hid hm
  clear hm
  obtain ⟨V0, hV, hb, hg⟩ := bx1 W 28 CC
  have HB := Lib.hid hb
  have G0 := Lib.hid hg
  have HV := Lib.hid hV
  have nRA := Lib.hid (RA.out.go hb)
  clear RA
  have RA := nRA
  clear nRA
  have nRB := Lib.hid (RB.out.go hb)
  clear RB
  have RB := nRB
  clear nRB
  have nRK := Lib.hid (RK.out.go hb)
  clear RK
  have RK := nRK
  clear nRK
  clear hb hg hV
  go_enter Try.func3, Try.ntmps3
  go_upto_region 1 with (fail)
  rw [← HV.out]
  clear HV
  have OG0 := G0
  have LB := Lib.hid HB.out.size
  have LTG0 := Lib.hid (show W.heap.size < V0.heap.size from Bx.lt G0.out)
  obtain ⟨V1, hV1⟩ : ∃ V, V = V0.alloc (.cells (ringC xa a) 26) := ⟨_, rfl⟩
  have ha := (Below.refl V0.heap.size V0).alloc (Nat.le_refl _) (.cells (ringC xa a) 26)
  have hg := heap_alloc_new V0 (.cells (ringC xa a) 26)
  have nHB := Lib.hid (HB.out.alloc HB.out.size (.cells (ringC xa a) 26))
  rw [← hV1] at ha hg nHB
  have nRA := Lib.hid (RA.out.go ha)
  have nRB := Lib.hid (RB.out.go ha)
  have nRK := Lib.hid (RK.out.go ha)
  have nG0 := Lib.hid (Bx.go G0.out ha)
  obtain ⟨g3, hg3⟩ : ∃ g, g = V0.heap.size := ⟨_, rfl⟩
  rw [← hg3] at hg
  have HXG3 := Lib.hid hg3
  have G3 := Lib.hid hg
  have HV := Lib.hid hV1
  clear ha hg hV1 hg3
  clear HB RA RB RK G0
  have HB := nHB
  have RA := nRA
  have RB := nRB
  have RK := nRK
  have G0 := nG0
  clear nHB nRA nRB nRK nG0
  have LEG3 := Lib.hid (show W.heap.size ≤ g3 from by rw [HXG3.out]; exact LB.out)
  have NEG0G3 := Lib.hid (show W.heap.size ≠ g3 from by have h1 := LTG0.out; rw [HXG3.out]; omega)
  have NEG3G0 := Lib.hid (NEG0G3.out.symm)
  clear LB LTG0
  go_upto_region 2 with (first | (refine loadPx (.tmp 21) W.heap.size 0 CC (ringC xa a) tyRing rfl PA.out OG0.out rfl rfl rfl ?_) | (refine storeX (.tmp 3) (.tmp 22) _ (ringC xa a) _ tyRing rfl (ringC_one _ _) (heap_alloc_new _ _) rfl rfl rfl rfl rfl ?_; rw [setRowG_fold]))
  rw [← HV.out]
  (try rw [← HXG3.out])
  clear HV HXG3
  clear OG0
  have OG0 := G0
  have LB := Lib.hid HB.out.size
  have LTG0 := Lib.hid (show W.heap.size < V1.heap.size from Bx.lt G0.out)
  have LTG3 := Lib.hid (show g3 < V1.heap.size from Bx.lt G3.out)
  obtain ⟨V2, hV2⟩ : ∃ V, V = V1.alloc (.cells (ringC xb b) 26) := ⟨_, rfl⟩
  have ha := (Below.refl V1.heap.size V1).alloc (Nat.le_refl _) (.cells (ringC xb b) 26)
  have hg := heap_alloc_new V1 (.cells (ringC xb b) 26)
  have nHB := Lib.hid (HB.out.alloc HB.out.size (.cells (ringC xb b) 26))
  rw [← hV2] at ha hg nHB
  have nRA := Lib.hid (RA.out.go ha)
  have nRB := Lib.hid (RB.out.go ha)
  have nRK := Lib.hid (RK.out.go ha)
  have nG0 := Lib.hid (Bx.go G0.out ha)
  have nG3 := Lib.hid (Bx.go G3.out ha)
  obtain ⟨g4, hg4⟩ : ∃ g, g = V1.heap.size := ⟨_, rfl⟩
  rw [← hg4] at hg
  have HXG4 := Lib.hid hg4
  have G4 := Lib.hid hg
  have HV := Lib.hid hV2
  clear ha hg hV2 hg4
  clear HB RA RB RK G0 G3
  have HB := nHB
  have RA := nRA
  have RB := nRB
  have RK := nRK
  have G0 := nG0
  have G3 := nG3
  clear nHB nRA nRB nRK nG0 nG3
  have LEG4 := Lib.hid (show W.heap.size ≤ g4 from by rw [HXG4.out]; exact LB.out)
  have NEG0G4 := Lib.hid (show W.heap.size ≠ g4 from by have h1 := LTG0.out; rw [HXG4.out]; omega)
  have NEG4G0 := Lib.hid (NEG0G4.out.symm)
  have NEG3G4 := Lib.hid (show g3 ≠ g4 from by have h1 := LTG3.out; rw [HXG4.out]; omega)
  have NEG4G3 := Lib.hid (NEG3G4.out.symm)
  clear LB LTG0 LTG3
  go_upto_region 3 with (first | (refine loadPx (.tmp 23) W.heap.size 8 CC (ringC xb b) tyRing rfl PB.out OG0.out rfl rfl rfl ?_) | (refine storeX (.tmp 4) (.tmp 24) _ (ringC xb b) _ tyRing rfl (ringC_one _ _) (heap_alloc_new _ _) rfl rfl rfl rfl rfl ?_; rw [setRowG_fold]))
  rw [← HV.out]
  (try rw [← HXG4.out])
  clear HV HXG4
  clear OG0
  have x0 := Bx.cell G0.out HCN.out
  have x1 := Bx.cell G0.out HCK.out
  go_wp2_with fail
  clear x0 x1
  refine (shown11_any _).mono ?_
  rintro e w3 ⟨rfl, hb⟩
  have nHB := Lib.hid (belG HB.out hb HB.out.size)
  have nRA := Lib.hid (RA.out.go hb)
  have nRB := Lib.hid (RB.out.go hb)
  have nRK := Lib.hid (RK.out.go hb)
  have nG0 := Lib.hid (Bx.go G0.out hb)
  have nG3 := Lib.hid (Bx.go G3.out hb)
  have nG4 := Lib.hid (Bx.go G4.out hb)
  clear hb
  clear HB RA RB RK G0 G3 G4
  have HB := nHB
  have RA := nRA
  have RB := nRB
  have RK := nRK
  have G0 := nG0
  have G3 := nG3
  have G4 := nG4
  clear nHB nRA nRB nRK nG0 nG3 nG4
  clear G0
  go_upto_region 6 with fail
  have NU := Lib.hid (show ∀ n : Int, (n != n) = false ∧ (n == n) = true from fun n => ⟨by simp, by simp⟩)
  by_cases hfa : fewR a
  case neg =>
    rw [decide_eq_false hfa] at HFA
    go_wp2_with (refine loadX (.tmp 3) g3 (ringC xa a) tyRing rfl G3.out rfl rfl rfl ?_)
    refine (HFA.out _).mono ?_
    rintro e w4 ⟨rfl, hb⟩
    have nHB := Lib.hid (belG HB.out hb HB.out.size)
    have nRA := Lib.hid (RA.out.go hb)
    have nRB := Lib.hid (RB.out.go hb)
    have nRK := Lib.hid (RK.out.go hb)
    have nG3 := Lib.hid (Bx.go G3.out hb)
    have nG4 := Lib.hid (Bx.go G4.out hb)
    clear hb
    clear HB RA RB RK G3 G4
    have HB := nHB
    have RA := nRA
    have RB := nRB
    have RK := nRK
    have G3 := nG3
    have G4 := nG4
    clear nHB nRA nRB nRK nG3 nG4
    go_wp2_with fail
    go_ret
    exact ⟨rfl, HB.out⟩
  rw [decide_eq_true hfa] at HFA
  by_cases hfb : fewR b
  case neg =>
    rw [decide_eq_false hfb] at HFB
    go_wp2_with (refine loadX (.tmp 3) g3 (ringC xa a) tyRing rfl G3.out rfl rfl rfl ?_)
    refine (HFA.out _).mono ?_
    rintro e w4 ⟨rfl, hb⟩
    have nHB := Lib.hid (belG HB.out hb HB.out.size)
    have nRA := Lib.hid (RA.out.go hb)
    have nRB := Lib.hid (RB.out.go hb)
    have nRK := Lib.hid (RK.out.go hb)
    have nG3 := Lib.hid (Bx.go G3.out hb)
    have nG4 := Lib.hid (Bx.go G4.out hb)
    clear hb
    clear HB RA RB RK G3 G4
    have HB := nHB
    have RA := nRA
    have RB := nRB
    have RK := nRK
    have G3 := nG3
    have G4 := nG4
    clear nHB nRA nRB nRK nG3 nG4
    go_wp2_with (refine loadX (.tmp 4) g4 (ringC xb b) tyRing rfl G4.out rfl rfl rfl ?_)
    refine (HFB.out _).mono ?_
    rintro e w5 ⟨rfl, hb⟩
    have nHB := Lib.hid (belG HB.out hb HB.out.size)
    have nRA := Lib.hid (RA.out.go hb)
    have nRB := Lib.hid (RB.out.go hb)
    have nRK := Lib.hid (RK.out.go hb)
    have nG3 := Lib.hid (Bx.go G3.out hb)
    have nG4 := Lib.hid (Bx.go G4.out hb)
    clear hb
    clear HB RA RB RK G3 G4
    have HB := nHB
    have RA := nRA
    have RB := nRB
    have RK := nRK
    have G3 := nG3
    have G4 := nG4
    clear nHB nRA nRB nRK nG3 nG4
    go_wp2_with fail
    go_ret
    exact ⟨rfl, HB.out⟩
  rw [decide_eq_true hfb] at HFB
  by_cases hmk : 100 < m
  case pos =>
    have hmi : (100 : Int) < (m : Int) := by omega
    go_wp2_with (refine loadX (.tmp 3) g3 (ringC xa a) tyRing rfl G3.out rfl rfl rfl ?_)
    refine (HFA.out _).mono ?_
    rintro e w4 ⟨rfl, hb⟩
    have nHB := Lib.hid (belG HB.out hb HB.out.size)
    have nRA := Lib.hid (RA.out.go hb)
    have nRB := Lib.hid (RB.out.go hb)
    have nRK := Lib.hid (RK.out.go hb)
    have nG3 := Lib.hid (Bx.go G3.out hb)
    have nG4 := Lib.hid (Bx.go G4.out hb)
    clear hb
    clear HB RA RB RK G3 G4
    have HB := nHB
    have RA := nRA
    have RB := nRB
    have RK := nRK
    have G3 := nG3
    have G4 := nG4
    clear nHB nRA nRB nRK nG3 nG4
    go_wp2_with (refine loadX (.tmp 4) g4 (ringC xb b) tyRing rfl G4.out rfl rfl rfl ?_)
    refine (HFB.out _).mono ?_
    rintro e w5 ⟨rfl, hb⟩
    have nHB := Lib.hid (belG HB.out hb HB.out.size)
    have nRA := Lib.hid (RA.out.go hb)
    have nRB := Lib.hid (RB.out.go hb)
    have nRK := Lib.hid (RK.out.go hb)
    have nG3 := Lib.hid (Bx.go G3.out hb)
    have nG4 := Lib.hid (Bx.go G4.out hb)
    clear hb
    clear HB RA RB RK G3 G4
    have HB := nHB
    have RA := nRA
    have RB := nRB
    have RK := nRK
    have G3 := nG3
    have G4 := nG4
    clear nHB nRA nRB nRK nG3 nG4
    go_wp2_with fail
    go_ret
    exact ⟨rfl, HB.out⟩
  have hmi : ¬ (100 : Int) < (m : Int) := by omega
  have CN := Lib.hid (fun w (h : KeyR w (A, c) k) => (show Calls Try.prog 10 #[.slice A m c] w fun e W' => AnsRg W' e (newR k).1 (newR k).2 ∧ Below w.heap.size w W' from by rw [HM.out]; exact rNew_any A k c w (by have h1 := HM.out; omega) h))
  have CM := Lib.hid (fun w (h : KeyR w (A, c) k) => (show Calls Try.prog 11 #[.slice A m c] w fun e W' => AnsRg W' e (newR k).1 (newR k).2 ∧ Below w.heap.size w W' from by rw [HM.out]; exact new11_any A k c w h))
  have HNK := Lib.hid (show FewK (newR k).1 ∧ Rg64 (newR k).1 from ⟨(new_right (k := k)).k, right_64 new_right⟩)
  have HAK := Lib.hid (show FewK a ∧ FewK b from ⟨hfa.k, hfb.k⟩)
  generalize newR k = N at *
  obtain ⟨N, nc⟩ := N
  simp only at CN CM HNK
  have hnc := (NU.out nc).1
  go_wp2_with (refine loadX (.tmp 3) g3 (ringC xa a) tyRing rfl G3.out rfl rfl rfl ?_)
  refine (HFA.out _).mono ?_
  rintro e w4 ⟨rfl, hb⟩
  have nHB := Lib.hid (belG HB.out hb HB.out.size)
  have nRA := Lib.hid (RA.out.go hb)
  have nRB := Lib.hid (RB.out.go hb)
  have nRK := Lib.hid (RK.out.go hb)
  have nG3 := Lib.hid (Bx.go G3.out hb)
  have nG4 := Lib.hid (Bx.go G4.out hb)
  clear hb
  clear HB RA RB RK G3 G4
  have HB := nHB
  have RA := nRA
  have RB := nRB
  have RK := nRK
  have G3 := nG3
  have G4 := nG4
  clear nHB nRA nRB nRK nG3 nG4
  go_wp2_with (refine loadX (.tmp 4) g4 (ringC xb b) tyRing rfl G4.out rfl rfl rfl ?_)
  refine (HFB.out _).mono ?_
  rintro e w5 ⟨rfl, hb⟩
  have nHB := Lib.hid (belG HB.out hb HB.out.size)
  have nRA := Lib.hid (RA.out.go hb)
  have nRB := Lib.hid (RB.out.go hb)
  have nRK := Lib.hid (RK.out.go hb)
  have nG3 := Lib.hid (Bx.go G3.out hb)
  have nG4 := Lib.hid (Bx.go G4.out hb)
  clear hb
  clear HB RA RB RK G3 G4
  have HB := nHB
  have RA := nRA
  have RB := nRB
  have RK := nRK
  have G3 := nG3
  have G4 := nG4
  clear nHB nRA nRB nRK nG3 nG4
  go_wp2_with fail
  refine (CN.out _ RK.out).mono ?_
  rintro e w6 ⟨⟨x8, rfl, hr⟩, hb⟩
  have nHB := Lib.hid (belG HB.out hb HB.out.size)
  have nRA := Lib.hid (RA.out.go hb)
  have nRB := Lib.hid (RB.out.go hb)
  have nRK := Lib.hid (RK.out.go hb)
  have nG3 := Lib.hid (Bx.go G3.out hb)
  have nG4 := Lib.hid (Bx.go G4.out hb)
  clear hb
  clear HB RA RB RK G3 G4
  have HB := nHB
  have RA := nRA
  have RB := nRB
  have RK := nRK
  have G3 := nG3
  have G4 := nG4
  clear nHB nRA nRB nRK nG3 nG4
  have RG8 := Lib.hid hr
  clear hr
  have LB := Lib.hid HB.out.size
  have LTG3 := Lib.hid (show g3 < w6.heap.size from Bx.lt G3.out)
  have LTG4 := Lib.hid (show g4 < w6.heap.size from Bx.lt G4.out)
  obtain ⟨V6, hV6⟩ : ∃ V, V = w6.alloc (.cells (ringC x8 N) 26) := ⟨_, rfl⟩
  have ha := (Below.refl w6.heap.size w6).alloc (Nat.le_refl _) (.cells (ringC x8 N) 26)
  have hg := heap_alloc_new w6 (.cells (ringC x8 N) 26)
  have nHB := Lib.hid (HB.out.alloc HB.out.size (.cells (ringC x8 N) 26))
  rw [← hV6] at ha hg nHB
  have nRA := Lib.hid (RA.out.go ha)
  have nRB := Lib.hid (RB.out.go ha)
  have nRK := Lib.hid (RK.out.go ha)
  have nRG8 := Lib.hid (RG8.out.go ha)
  have nG3 := Lib.hid (Bx.go G3.out ha)
  have nG4 := Lib.hid (Bx.go G4.out ha)
  obtain ⟨g8, hg8⟩ : ∃ g, g = w6.heap.size := ⟨_, rfl⟩
  rw [← hg8] at hg
  have HXG8 := Lib.hid hg8
  have G8 := Lib.hid hg
  have HV := Lib.hid hV6
  clear ha hg hV6 hg8
  clear HB RA RB RK RG8 G3 G4
  have HB := nHB
  have RA := nRA
  have RB := nRB
  have RK := nRK
  have RG8 := nRG8
  have G3 := nG3
  have G4 := nG4
  clear nHB nRA nRB nRK nRG8 nG3 nG4
  have LEG8 := Lib.hid (show W.heap.size ≤ g8 from by rw [HXG8.out]; exact LB.out)
  have NEG3G8 := Lib.hid (show g3 ≠ g8 from by have h1 := LTG3.out; rw [HXG8.out]; omega)
  have NEG8G3 := Lib.hid (NEG3G8.out.symm)
  have NEG4G8 := Lib.hid (show g4 ≠ g8 from by have h1 := LTG4.out; rw [HXG8.out]; omega)
  have NEG8G4 := Lib.hid (NEG4G8.out.symm)
  clear LB LTG3 LTG4
  go_upto_region 9 with (refine storeX (.tmp 8) (.tmp 47) _ (ringC x8 N) _ tyRing rfl (ringC_one _ _) (heap_alloc_new _ _) rfl rfl rfl rfl rfl ?_; rw [setRowG_fold])
  rw [← HV.out]
  (try rw [← HXG8.out])
  clear HV HXG8
  go_wp2_with fail
  refine (CM.out _ RK.out).mono ?_
  rintro e w7 ⟨⟨x10, rfl, hr⟩, hb⟩
  have nHB := Lib.hid (belG HB.out hb HB.out.size)
  have nRA := Lib.hid (RA.out.go hb)
  have nRB := Lib.hid (RB.out.go hb)
  have nRK := Lib.hid (RK.out.go hb)
  have nRG8 := Lib.hid (RG8.out.go hb)
  have nG3 := Lib.hid (Bx.go G3.out hb)
  have nG4 := Lib.hid (Bx.go G4.out hb)
  have nG8 := Lib.hid (Bx.go G8.out hb)
  clear hb
  clear HB RA RB RK RG8 G3 G4 G8
  have HB := nHB
  have RA := nRA
  have RB := nRB
  have RK := nRK
  have RG8 := nRG8
  have G3 := nG3
  have G4 := nG4
  have G8 := nG8
  clear nHB nRA nRB nRK nRG8 nG3 nG4 nG8
  have RG10 := Lib.hid hr
  clear hr
  have LB := Lib.hid HB.out.size
  have LTG3 := Lib.hid (show g3 < w7.heap.size from Bx.lt G3.out)
  have LTG4 := Lib.hid (show g4 < w7.heap.size from Bx.lt G4.out)
  have LTG8 := Lib.hid (show g8 < w7.heap.size from Bx.lt G8.out)
  obtain ⟨V7, hV7⟩ : ∃ V, V = w7.alloc (.cells (ringC x10 N) 26) := ⟨_, rfl⟩
  have ha := (Below.refl w7.heap.size w7).alloc (Nat.le_refl _) (.cells (ringC x10 N) 26)
  have hg := heap_alloc_new w7 (.cells (ringC x10 N) 26)
  have nHB := Lib.hid (HB.out.alloc HB.out.size (.cells (ringC x10 N) 26))
  rw [← hV7] at ha hg nHB
  have nRA := Lib.hid (RA.out.go ha)
  have nRB := Lib.hid (RB.out.go ha)
  have nRK := Lib.hid (RK.out.go ha)
  have nRG8 := Lib.hid (RG8.out.go ha)
  have nRG10 := Lib.hid (RG10.out.go ha)
  have nG3 := Lib.hid (Bx.go G3.out ha)
  have nG4 := Lib.hid (Bx.go G4.out ha)
  have nG8 := Lib.hid (Bx.go G8.out ha)
  obtain ⟨g10, hg10⟩ : ∃ g, g = w7.heap.size := ⟨_, rfl⟩
  rw [← hg10] at hg
  have HXG10 := Lib.hid hg10
  have G10 := Lib.hid hg
  have HV := Lib.hid hV7
  clear ha hg hV7 hg10
  clear HB RA RB RK RG8 RG10 G3 G4 G8
  have HB := nHB
  have RA := nRA
  have RB := nRB
  have RK := nRK
  have RG8 := nRG8
  have RG10 := nRG10
  have G3 := nG3
  have G4 := nG4
  have G8 := nG8
  clear nHB nRA nRB nRK nRG8 nRG10 nG3 nG4 nG8
  have LEG10 := Lib.hid (show W.heap.size ≤ g10 from by rw [HXG10.out]; exact LB.out)
  have NEG3G10 := Lib.hid (show g3 ≠ g10 from by have h1 := LTG3.out; rw [HXG10.out]; omega)
  have NEG10G3 := Lib.hid (NEG3G10.out.symm)
  have NEG4G10 := Lib.hid (show g4 ≠ g10 from by have h1 := LTG4.out; rw [HXG10.out]; omega)
  have NEG10G4 := Lib.hid (NEG4G10.out.symm)
  have NEG8G10 := Lib.hid (show g8 ≠ g10 from by have h1 := LTG8.out; rw [HXG10.out]; omega)
  have NEG10G8 := Lib.hid (NEG8G10.out.symm)
  clear LB LTG3 LTG4 LTG8
  go_upto_region 10 with (refine storeX (.tmp 10) (.tmp 52) _ (ringC x10 N) _ tyRing rfl (ringC_one _ _) (heap_alloc_new _ _) rfl rfl rfl rfl rfl ?_; rw [setRowG_fold])
  rw [← HV.out]
  (try rw [← HXG10.out])
  clear HV HXG10
  go_wp2_with (refine loadX (.tmp 3) g3 (ringC xa a) tyRing rfl G3.out rfl rfl rfl ?_)
  have HQ := Lib.hid (show (RightR a → decide (RightR a) = true) ∧ (¬ RightR a → decide (RightR a) = false) from ⟨decide_eq_true, decide_eq_false⟩)
  have CR := Lib.hid (fun w (h : RingR w xa a) => rRight_any xa a w HAK.out.1 H64.out h)
  have CS := Lib.hid (fun w (h : RingR w xa a) (h2 : RingR w xb b) => rSame_any xa xb a b w HAK.out.1 HAK.out.2 H64.out H65.out h h2)
  have CT := Lib.hid (fun w (h : RingR w xa a) (h2 : RingR w xb b) => same11_any xa xb a b w h h2)
  have CV := Lib.hid (fun w (h : RingR w x8 N) (h2 : RingR w x10 N) => (show Calls Try.prog 13 #[.agg (ringC x8 N), .agg (ringC x10 N)] w fun e W' => e = .returned (.bool true) ∧ Below w.heap.size w W' from by have h3 := same11_any x8 x10 N N w h h2; rw [decide_eq_true rfl] at h3; exact h3))
  generalize decide (a = b) = s at *
  have hss : (s != s) = false := by cases s <;> rfl
  refine (HRA.out _).mono ?_
  rintro e w8 ⟨rfl, hb⟩
  have nHB := Lib.hid (belG HB.out hb HB.out.size)
  have nRA := Lib.hid (RA.out.go hb)
  have nRB := Lib.hid (RB.out.go hb)
  have nRK := Lib.hid (RK.out.go hb)
  have nRG8 := Lib.hid (RG8.out.go hb)
  have nRG10 := Lib.hid (RG10.out.go hb)
  have nG3 := Lib.hid (Bx.go G3.out hb)
  have nG4 := Lib.hid (Bx.go G4.out hb)
  have nG8 := Lib.hid (Bx.go G8.out hb)
  have nG10 := Lib.hid (Bx.go G10.out hb)
  clear hb
  clear HB RA RB RK RG8 RG10 G3 G4 G8 G10
  have HB := nHB
  have RA := nRA
  have RB := nRB
  have RK := nRK
  have RG8 := nRG8
  have RG10 := nRG10
  have G3 := nG3
  have G4 := nG4
  have G8 := nG8
  have G10 := nG10
  clear nHB nRA nRB nRK nRG8 nRG10 nG3 nG4 nG8 nG10
  by_cases hR : RightR a
  · have CX := Lib.hid (fun w (h : RingR w xa a) => rNext_any xa a w hR H64.out h)
    have CY := Lib.hid (fun w => next11_any xa a w H64.out)
    have CP := Lib.hid (fun w (h : RingR w xa a) => rFind_any xa a no w hR H64.out h HBN.out)
    have CQ := Lib.hid (fun w (h : RingR w xa a) => find11_any xa a no w h)
    generalize nextR a = nn at *
    generalize findR a no = ff at *
    obtain ⟨n1, n2⟩ := nn
    obtain ⟨f1, f2⟩ := ff
    unfold AnsFi at CP CQ
    simp only at CX CY CP CQ
    obtain ⟨fl, hfl⟩ : ∃ n, n = f1.length := ⟨_, rfl⟩
    rw [← hfl] at CP CQ
    have CW := Lib.hid (fun (p q : Wk) w (h : KeyR w p f1) (h2 : KeyR w q f1) => (show Calls Try.prog 20 #[.slice p.1 fl p.2, .slice q.1 fl q.2] w fun e W' => e = .returned (.bool true) ∧ w = W' from by have h3 := same_any p.1 q.1 f1 f1 p.2 q.2 _ _ w h.2.2 h2.2.2; rw [← hfl] at h3; exact h3.mono fun _ _ h => ⟨h.1.trans (by simp), h.2⟩))
    clear hfl
    have e1 := (NU.out n1).2
    have e2 := (NU.out n2).2
    have e3 : (f2 == f2) = true := by simp
    rw [decide_eq_true hR] at CR ⊢
    go_upto_region 11 with fail
    have BB0 := Lib.hid ((Below.refl w8.heap.size w8).drew)
    have KEEP := Lib.hid (fun w' (hW : Below w8.heap.size w8 w') => (show Below w8.heap.size w8 w' from hW))
    refine wp_region_noPanic ?_
    refine wp_region_held_drew (S := fun w' => Below w8.heap.size w8 w') (by kernel_rfl) (KEEP.out _ BB0.out) (fun hHeld => ?_)
    obtain ⟨wz0, hwz⟩ : ∃ x, x = w8.drew := ⟨_, rfl⟩
    rw [← hwz] at BB0 hHeld ⊢
    clear hwz
    refine wpAnyH_take (i := 0) (oi := ?_) (v := .agg (ringC x8 N)) ?_ (by kernel_rfl) (by decide +kernel) (by decide +kernel) (fun _ _ _ h => h) ?_ (by assumption) ?_
    rotate_left 1
    focus (simp only [List.getElem?_toArray, List.getElem?_cons_zero] <;> rfl)
    · refine yieldsX (T := 26) ?_ (.tmp 8) ?_ ⟨g8, 0, none⟩ ?_ (ringC x8 N) ?_
      focus rfl
      focus exact rfl
      focus exact rfl
      exact fun w hSw => run_loadX tyRing rfl (Bx.go G8.out hSw)
    (try simp only [Act.put, List.setIfInBounds_toArray, List.set_cons_zero, List.set_cons_succ])
    refine wpAnyH_take (i := 1) (oi := ?_) (v := .agg (ringC x10 N)) ?_ (by kernel_rfl) (by decide +kernel) (by decide +kernel) (fun _ _ _ h => h) ?_ (by assumption) ?_
    rotate_left 1
    focus (simp only [List.getElem?_toArray, List.getElem?_cons_succ, List.getElem?_cons_zero] <;> rfl)
    · refine yieldsX (T := 26) ?_ (.tmp 10) ?_ ⟨g10, 0, none⟩ ?_ (ringC x10 N) ?_
      focus rfl
      focus exact rfl
      focus exact rfl
      exact fun w hSw => run_loadX tyRing rfl (Bx.go G10.out hSw)
    (try simp only [Act.put, List.setIfInBounds_toArray, List.set_cons_zero, List.set_cons_succ])
    refine wpAnyH_ready (rs := [2]) (by decide +kernel) (by simp) ?_
    refine AllReadyH.cons rfl (fun K hK => ?_) AllReadyH.nil
    go_simp
    go_at_call 13
    refine (CV.out _ (RG8.out.go BB0.out) (RG10.out.go BB0.out)).mono ?_
    rintro e wz1 ⟨rfl, hb⟩
    have BB1 := Lib.hid (belG BB0.out hb BB0.out.size)
    clear hb
    refine hK.out _ _ (KEEP.out _ BB1.out) (fun hHeld => ?_)
    clear hK K
    (try simp only [Act.put, List.setIfInBounds_toArray, List.set_cons_zero, List.set_cons_succ])
    refine wpAnyH_take (i := 3) (oi := ?_) (v := ?_) ?_ (by kernel_rfl) (by decide +kernel) (by decide +kernel) (fun _ _ _ h => h) ?_ (by assumption) ?_
    rotate_left 2
    focus (simp only [List.getElem?_toArray, List.getElem?_cons_succ, List.getElem?_cons_zero] <;> rfl)
    · refine Or.inl ⟨by rfl, ?_⟩
      intro w hSw
      (try dsimp only at hSw)
      go_simp <;> with_reducible rfl
    (try simp only [Act.put, List.setIfInBounds_toArray, List.set_cons_zero, List.set_cons_succ])
    refine wpAnyH_take (i := 4) (oi := ?_) (v := ?_) ?_ (by kernel_rfl) (by decide +kernel) (by decide +kernel) (fun _ _ _ h => h) ?_ (by assumption) ?_
    rotate_left 2
    focus (simp only [List.getElem?_toArray, List.getElem?_cons_succ, List.getElem?_cons_zero] <;> rfl)
    · refine Or.inl ⟨by rfl, ?_⟩
      intro w hSw
      (try dsimp only at hSw)
      go_simp <;> with_reducible rfl
    (try simp only [Act.put, List.setIfInBounds_toArray, List.set_cons_zero, List.set_cons_succ])
    refine wpAnyH_take (i := 5) (oi := ?_) (v := ?_) ?_ (by kernel_rfl) (by decide +kernel) (by decide +kernel) (fun _ _ _ h => h) ?_ (by assumption) ?_
    rotate_left 2
    focus (simp only [List.getElem?_toArray, List.getElem?_cons_succ, List.getElem?_cons_zero] <;> rfl)
    · refine Or.inl ⟨by rfl, ?_⟩
      intro w hSw
      (try dsimp only at hSw)
      go_simp <;> with_reducible rfl
    (try simp only [Act.put, List.setIfInBounds_toArray, List.set_cons_zero, List.set_cons_succ])
    refine wpAnyH_take (i := 6) (oi := ?_) (v := ?_) ?_ (by kernel_rfl) (by decide +kernel) (by decide +kernel) (fun _ _ _ h => h) ?_ (by assumption) ?_
    rotate_left 2
    focus (simp only [List.getElem?_toArray, List.getElem?_cons_succ, List.getElem?_cons_zero] <;> rfl)
    · refine Or.inl ⟨by rfl, ?_⟩
      intro w hSw
      (try dsimp only at hSw)
      go_simp <;> with_reducible rfl
    (try simp only [Act.put, List.setIfInBounds_toArray, List.set_cons_zero, List.set_cons_succ])
    refine wpAnyH_take (i := 7) (oi := ?_) (v := ?_) ?_ (by kernel_rfl) (by decide +kernel) (by decide +kernel) (fun _ _ _ h => h) ?_ (by assumption) ?_
    rotate_left 2
    focus (simp only [List.getElem?_toArray, List.getElem?_cons_succ, List.getElem?_cons_zero] <;> rfl)
    · refine Or.inl ⟨by rfl, ?_⟩
      intro w hSw
      (try dsimp only at hSw)
      go_simp <;> with_reducible rfl
    (try simp only [Act.put, List.setIfInBounds_toArray, List.set_cons_zero, List.set_cons_succ])
    refine wpAnyH_take (i := 8) (oi := ?_) (v := ?_) ?_ (by kernel_rfl) (by decide +kernel) (by decide +kernel) (fun _ _ _ h => h) ?_ (by assumption) ?_
    rotate_left 2
    focus (simp only [List.getElem?_toArray, List.getElem?_cons_succ, List.getElem?_cons_zero] <;> rfl)
    · refine Or.inl ⟨by rfl, ?_⟩
      intro w hSw
      (try dsimp only at hSw)
      go_simp <;> with_reducible rfl
    (try simp only [Act.put, List.setIfInBounds_toArray, List.set_cons_zero, List.set_cons_succ])
    refine wpAnyH_take (i := 9) (oi := ?_) (v := ?_) ?_ (by kernel_rfl) (by decide +kernel) (by decide +kernel) (fun _ _ _ h => h) ?_ (by assumption) ?_
    rotate_left 2
    focus (simp only [List.getElem?_toArray, List.getElem?_cons_succ, List.getElem?_cons_zero] <;> rfl)
    · refine Or.inl ⟨by rfl, ?_⟩
      intro w hSw
      (try dsimp only at hSw)
      go_simp <;> with_reducible rfl
    (try simp only [Act.put, List.setIfInBounds_toArray, List.set_cons_zero, List.set_cons_succ])
    refine wpAnyH_take (i := 10) (oi := ?_) (v := .agg (ringC xa a)) ?_ (by kernel_rfl) (by decide +kernel) (by decide +kernel) (fun _ _ _ h => h) ?_ (by assumption) ?_
    rotate_left 1
    focus (simp only [List.getElem?_toArray, List.getElem?_cons_succ, List.getElem?_cons_zero] <;> rfl)
    · refine yieldsX (T := 26) ?_ (.tmp 3) ?_ ⟨g3, 0, none⟩ ?_ (ringC xa a) ?_
      focus rfl
      focus exact rfl
      focus exact rfl
      exact fun w hSw => run_loadX tyRing rfl (Bx.go G3.out hSw)
    (try simp only [Act.put, List.setIfInBounds_toArray, List.set_cons_zero, List.set_cons_succ])
    refine wpAnyH_take (i := 12) (oi := ?_) (v := ?_) ?_ (by kernel_rfl) (by decide +kernel) (by decide +kernel) (fun _ _ _ h => h) ?_ (by assumption) ?_
    rotate_left 2
    focus (simp only [List.getElem?_toArray, List.getElem?_cons_succ, List.getElem?_cons_zero] <;> rfl)
    · refine Or.inl ⟨by rfl, ?_⟩
      intro w hSw
      (try dsimp only at hSw)
      go_simp <;> with_reducible rfl
    (try simp only [Act.put, List.setIfInBounds_toArray, List.set_cons_zero, List.set_cons_succ])
    refine wpAnyH_ready (rs := [11]) (by decide +kernel) (by simp) ?_
    refine AllReadyH.cons rfl (fun K hK => ?_) AllReadyH.nil
    go_simp
    go_at_call 14
    refine (CR.out _ (RA.out.go BB1.out)).mono ?_
    rintro e wz2 ⟨rfl, hb⟩
    have BB2 := Lib.hid (belG BB1.out hb BB1.out.size)
    clear hb
    refine hK.out _ _ (KEEP.out _ BB2.out) (fun hHeld => ?_)
    clear hK K
    (try simp only [Act.put, List.setIfInBounds_toArray, List.set_cons_zero, List.set_cons_succ])
    refine wpAnyH_take (i := 13) (oi := ?_) (v := ?_) ?_ (by kernel_rfl) (by decide +kernel) (by decide +kernel) (fun _ _ _ h => h) ?_ (by assumption) ?_
    rotate_left 2
    focus (simp only [List.getElem?_toArray, List.getElem?_cons_succ, List.getElem?_cons_zero] <;> rfl)
    · refine Or.inl ⟨by rfl, ?_⟩
      intro w hSw
      (try dsimp only at hSw)
      go_simp <;> with_reducible rfl
    (try simp only [Act.put, List.setIfInBounds_toArray, List.set_cons_zero, List.set_cons_succ])
    refine wpAnyH_take (i := 14) (oi := ?_) (v := ?_) ?_ (by kernel_rfl) (by decide +kernel) (by decide +kernel) (fun _ _ _ h => h) ?_ (by assumption) ?_
    rotate_left 2
    focus (simp only [List.getElem?_toArray, List.getElem?_cons_succ, List.getElem?_cons_zero] <;> rfl)
    · refine Or.inl ⟨by rfl, ?_⟩
      intro w hSw
      (try dsimp only at hSw)
      go_simp <;> with_reducible rfl
    (try simp only [Act.put, List.setIfInBounds_toArray, List.set_cons_zero, List.set_cons_succ])
    refine wpAnyH_take (i := 15) (oi := ?_) (v := ?_) ?_ (by kernel_rfl) (by decide +kernel) (by decide +kernel) (fun _ _ _ h => h) ?_ (by assumption) ?_
    rotate_left 2
    focus (simp only [List.getElem?_toArray, List.getElem?_cons_succ, List.getElem?_cons_zero] <;> rfl)
    · refine Or.inl ⟨by rfl, ?_⟩
      intro w hSw
      (try dsimp only at hSw)
      go_simp <;> with_reducible rfl
    (try simp only [Act.put, List.setIfInBounds_toArray, List.set_cons_zero, List.set_cons_succ])
    refine wpAnyH_take (i := 16) (oi := ?_) (v := .agg (ringC xa a)) ?_ (by kernel_rfl) (by decide +kernel) (by decide +kernel) (fun _ _ _ h => h) ?_ (by assumption) ?_
    rotate_left 1
    focus (simp only [List.getElem?_toArray, List.getElem?_cons_succ, List.getElem?_cons_zero] <;> rfl)
    · refine yieldsX (T := 26) ?_ (.tmp 3) ?_ ⟨g3, 0, none⟩ ?_ (ringC xa a) ?_
      focus rfl
      focus exact rfl
      focus exact rfl
      exact fun w hSw => run_loadX tyRing rfl (Bx.go G3.out hSw)
    (try simp only [Act.put, List.setIfInBounds_toArray, List.set_cons_zero, List.set_cons_succ])
    refine wpAnyH_take (i := 17) (oi := ?_) (v := .agg (ringC xb b)) ?_ (by kernel_rfl) (by decide +kernel) (by decide +kernel) (fun _ _ _ h => h) ?_ (by assumption) ?_
    rotate_left 1
    focus (simp only [List.getElem?_toArray, List.getElem?_cons_succ, List.getElem?_cons_zero] <;> rfl)
    · refine yieldsX (T := 26) ?_ (.tmp 4) ?_ ⟨g4, 0, none⟩ ?_ (ringC xb b) ?_
      focus rfl
      focus exact rfl
      focus exact rfl
      exact fun w hSw => run_loadX tyRing rfl (Bx.go G4.out hSw)
    (try simp only [Act.put, List.setIfInBounds_toArray, List.set_cons_zero, List.set_cons_succ])
    refine wpAnyH_take (i := 19) (oi := ?_) (v := .agg (ringC xa a)) ?_ (by kernel_rfl) (by decide +kernel) (by decide +kernel) (fun _ _ _ h => h) ?_ (by assumption) ?_
    rotate_left 1
    focus (simp only [List.getElem?_toArray, List.getElem?_cons_succ, List.getElem?_cons_zero] <;> rfl)
    · refine yieldsX (T := 26) ?_ (.tmp 3) ?_ ⟨g3, 0, none⟩ ?_ (ringC xa a) ?_
      focus rfl
      focus exact rfl
      focus exact rfl
      exact fun w hSw => run_loadX tyRing rfl (Bx.go G3.out hSw)
    (try simp only [Act.put, List.setIfInBounds_toArray, List.set_cons_zero, List.set_cons_succ])
    refine wpAnyH_take (i := 20) (oi := ?_) (v := .agg (ringC xb b)) ?_ (by kernel_rfl) (by decide +kernel) (by decide +kernel) (fun _ _ _ h => h) ?_ (by assumption) ?_
    rotate_left 1
    focus (simp only [List.getElem?_toArray, List.getElem?_cons_succ, List.getElem?_cons_zero] <;> rfl)
    · refine yieldsX (T := 26) ?_ (.tmp 4) ?_ ⟨g4, 0, none⟩ ?_ (ringC xb b) ?_
      focus rfl
      focus exact rfl
      focus exact rfl
      exact fun w hSw => run_loadX tyRing rfl (Bx.go G4.out hSw)
    (try simp only [Act.put, List.setIfInBounds_toArray, List.set_cons_zero, List.set_cons_succ])
    refine wpAnyH_ready (rs := [18]) (by decide +kernel) (by simp) ?_
    refine AllReadyH.cons rfl (fun K hK => ?_) AllReadyH.nil
    go_simp
    go_at_call 15
    refine (CS.out _ (RA.out.go BB2.out) (RB.out.go BB2.out)).mono ?_
    rintro e wz3 ⟨rfl, hb⟩
    have BB3 := Lib.hid (belG BB2.out hb BB2.out.size)
    clear hb
    refine hK.out _ _ (KEEP.out _ BB3.out) (fun hHeld => ?_)
    clear hK K
    (try simp only [Act.put, List.setIfInBounds_toArray, List.set_cons_zero, List.set_cons_succ])
    refine wpAnyH_ready (rs := [21]) (by decide +kernel) (by simp) ?_
    refine AllReadyH.cons rfl (fun K hK => ?_) AllReadyH.nil
    go_simp
    go_at_call 13
    refine (CT.out _ (RA.out.go BB3.out) (RB.out.go BB3.out)).mono ?_
    rintro e wz4 ⟨rfl, hb⟩
    have BB4 := Lib.hid (belG BB3.out hb BB3.out.size)
    clear hb
    refine hK.out _ _ (KEEP.out _ BB4.out) (fun hHeld => ?_)
    clear hK K
    (try simp only [Act.put, List.setIfInBounds_toArray, List.set_cons_zero, List.set_cons_succ])
    refine wpAnyH_take (i := 22) (oi := ?_) (v := ?_) ?_ (by kernel_rfl) (by decide +kernel) (by decide +kernel) (fun _ _ _ h => h) ?_ (by assumption) ?_
    rotate_left 2
    focus (simp only [List.getElem?_toArray, List.getElem?_cons_succ, List.getElem?_cons_zero] <;> rfl)
    · refine Or.inl ⟨by rfl, ?_⟩
      intro w hSw
      (try dsimp only at hSw)
      go_simp <;> with_reducible rfl
    (try simp only [Act.put, List.setIfInBounds_toArray, List.set_cons_zero, List.set_cons_succ])
    refine wpAnyH_take (i := 23) (oi := ?_) (v := ?_) ?_ (by kernel_rfl) (by decide +kernel) (by decide +kernel) (fun _ _ _ h => h) ?_ (by assumption) ?_
    rotate_left 2
    focus (simp only [List.getElem?_toArray, List.getElem?_cons_succ, List.getElem?_cons_zero] <;> rfl)
    · refine Or.inl ⟨by rfl, ?_⟩
      intro w hSw
      (try dsimp only at hSw)
      go_simp <;> with_reducible rfl
    (try simp only [Act.put, List.setIfInBounds_toArray, List.set_cons_zero, List.set_cons_succ])
    refine wpAnyH_done (by decide +kernel) ?_ _
    refine NoPanic.normal ?_
    clear KEEP
    obtain ⟨w9, hw⟩ : ∃ x, x = wz4 := ⟨_, rfl⟩
    have hb : Below w8.heap.size w8 w9 := by rw [hw]; exact BB4.out
    rw [← hw]
    have nHB := Lib.hid (belG HB.out hb HB.out.size)
    have nRA := Lib.hid (RA.out.go hb)
    have nRB := Lib.hid (RB.out.go hb)
    have nRK := Lib.hid (RK.out.go hb)
    have nRG8 := Lib.hid (RG8.out.go hb)
    have nRG10 := Lib.hid (RG10.out.go hb)
    have nG3 := Lib.hid (Bx.go G3.out hb)
    have nG4 := Lib.hid (Bx.go G4.out hb)
    have nG8 := Lib.hid (Bx.go G8.out hb)
    have nG10 := Lib.hid (Bx.go G10.out hb)
    clear hb hw
    clear HB RA RB RK RG8 RG10 G3 G4 G8 G10
    have HB := nHB
    have RA := nRA
    have RB := nRB
    have RK := nRK
    have RG8 := nRG8
    have RG10 := nRG10
    have G3 := nG3
    have G4 := nG4
    have G8 := nG8
    have G10 := nG10
    clear nHB nRA nRB nRK nRG8 nRG10 nG3 nG4 nG8 nG10
    go_wp2_with (refine loadX (.tmp 3) g3 (ringC xa a) tyRing rfl G3.out rfl rfl rfl ?_)
    refine (CX.out _ RA.out).mono ?_
    rintro e w10 ⟨rfl, hb⟩
    have nHB := Lib.hid (belG HB.out hb HB.out.size)
    have nRA := Lib.hid (RA.out.go hb)
    have nRB := Lib.hid (RB.out.go hb)
    have nRK := Lib.hid (RK.out.go hb)
    have nRG8 := Lib.hid (RG8.out.go hb)
    have nRG10 := Lib.hid (RG10.out.go hb)
    have nG3 := Lib.hid (Bx.go G3.out hb)
    have nG4 := Lib.hid (Bx.go G4.out hb)
    have nG8 := Lib.hid (Bx.go G8.out hb)
    have nG10 := Lib.hid (Bx.go G10.out hb)
    clear hb
    clear HB RA RB RK RG8 RG10 G3 G4 G8 G10
    have HB := nHB
    have RA := nRA
    have RB := nRB
    have RK := nRK
    have RG8 := nRG8
    have RG10 := nRG10
    have G3 := nG3
    have G4 := nG4
    have G8 := nG8
    have G10 := nG10
    clear nHB nRA nRB nRK nRG8 nRG10 nG3 nG4 nG8 nG10
    go_wp2_with (refine loadX (.tmp 3) g3 (ringC xa a) tyRing rfl G3.out rfl rfl rfl ?_)
    refine (CY.out _).mono ?_
    rintro e w11 ⟨rfl, hb⟩
    have nHB := Lib.hid (belG HB.out hb HB.out.size)
    have nRA := Lib.hid (RA.out.go hb)
    have nRB := Lib.hid (RB.out.go hb)
    have nRK := Lib.hid (RK.out.go hb)
    have nRG8 := Lib.hid (RG8.out.go hb)
    have nRG10 := Lib.hid (RG10.out.go hb)
    have nG3 := Lib.hid (Bx.go G3.out hb)
    have nG4 := Lib.hid (Bx.go G4.out hb)
    have nG8 := Lib.hid (Bx.go G8.out hb)
    have nG10 := Lib.hid (Bx.go G10.out hb)
    clear hb
    clear HB RA RB RK RG8 RG10 G3 G4 G8 G10
    have HB := nHB
    have RA := nRA
    have RB := nRB
    have RK := nRK
    have RG8 := nRG8
    have RG10 := nRG10
    have G3 := nG3
    have G4 := nG4
    have G8 := nG8
    have G10 := nG10
    clear nHB nRA nRB nRK nRG8 nRG10 nG3 nG4 nG8 nG10
    go_wp2_with (refine loadX (.tmp 3) g3 (ringC xa a) tyRing rfl G3.out rfl rfl rfl ?_)
    refine (CP.out _ RA.out).mono ?_
    rintro e w12 ⟨⟨p, rfl, hk⟩, hb⟩
    have nHB := Lib.hid (belG HB.out hb HB.out.size)
    have nRA := Lib.hid (RA.out.go hb)
    have nRB := Lib.hid (RB.out.go hb)
    have nRK := Lib.hid (RK.out.go hb)
    have nRG8 := Lib.hid (RG8.out.go hb)
    have nRG10 := Lib.hid (RG10.out.go hb)
    have nG3 := Lib.hid (Bx.go G3.out hb)
    have nG4 := Lib.hid (Bx.go G4.out hb)
    have nG8 := Lib.hid (Bx.go G8.out hb)
    have nG10 := Lib.hid (Bx.go G10.out hb)
    clear hb
    clear HB RA RB RK RG8 RG10 G3 G4 G8 G10
    have HB := nHB
    have RA := nRA
    have RB := nRB
    have RK := nRK
    have RG8 := nRG8
    have RG10 := nRG10
    have G3 := nG3
    have G4 := nG4
    have G8 := nG8
    have G10 := nG10
    clear nHB nRA nRB nRK nRG8 nRG10 nG3 nG4 nG8 nG10
    have RP := Lib.hid hk
    clear hk
    go_wp2_with (refine loadX (.tmp 3) g3 (ringC xa a) tyRing rfl G3.out rfl rfl rfl ?_)
    refine (CQ.out _ RA.out).mono ?_
    rintro e w13 ⟨⟨q, rfl, hk⟩, hb⟩
    have nHB := Lib.hid (belG HB.out hb HB.out.size)
    have nRA := Lib.hid (RA.out.go hb)
    have nRB := Lib.hid (RB.out.go hb)
    have nRK := Lib.hid (RK.out.go hb)
    have nRG8 := Lib.hid (RG8.out.go hb)
    have nRG10 := Lib.hid (RG10.out.go hb)
    have nRP := Lib.hid (RP.out.go hb)
    have nG3 := Lib.hid (Bx.go G3.out hb)
    have nG4 := Lib.hid (Bx.go G4.out hb)
    have nG8 := Lib.hid (Bx.go G8.out hb)
    have nG10 := Lib.hid (Bx.go G10.out hb)
    clear hb
    clear HB RA RB RK RG8 RG10 RP G3 G4 G8 G10
    have HB := nHB
    have RA := nRA
    have RB := nRB
    have RK := nRK
    have RG8 := nRG8
    have RG10 := nRG10
    have RP := nRP
    have G3 := nG3
    have G4 := nG4
    have G8 := nG8
    have G10 := nG10
    clear nHB nRA nRB nRK nRG8 nRG10 nRP nG3 nG4 nG8 nG10
    have RQ := Lib.hid hk
    clear hk
    go_wp2_with fail
    refine (CW.out p q _ RP.out RQ.out).mono ?_
    rintro e w14 ⟨rfl, rfl⟩
    go_wp2_with fail
    go_ret
    exact ⟨by first | rfl | simp, HB.out⟩
  · rw [decide_eq_false hR] at CR ⊢
    go_upto_region 11 with fail
    have BB0 := Lib.hid ((Below.refl w8.heap.size w8).drew)
    have KEEP := Lib.hid (fun w' (hW : Below w8.heap.size w8 w') => (show Below w8.heap.size w8 w' from hW))
    refine wp_region_noPanic ?_
    refine wp_region_held_drew (S := fun w' => Below w8.heap.size w8 w') (by kernel_rfl) (KEEP.out _ BB0.out) (fun hHeld => ?_)
    obtain ⟨wz0, hwz⟩ : ∃ x, x = w8.drew := ⟨_, rfl⟩
    rw [← hwz] at BB0 hHeld ⊢
    clear hwz
    refine wpAnyH_take (i := 0) (oi := ?_) (v := .agg (ringC x8 N)) ?_ (by kernel_rfl) (by decide +kernel) (by decide +kernel) (fun _ _ _ h => h) ?_ (by assumption) ?_
    rotate_left 1
    focus (simp only [List.getElem?_toArray, List.getElem?_cons_zero] <;> rfl)
    · refine yieldsX (T := 26) ?_ (.tmp 8) ?_ ⟨g8, 0, none⟩ ?_ (ringC x8 N) ?_
      focus rfl
      focus exact rfl
      focus exact rfl
      exact fun w hSw => run_loadX tyRing rfl (Bx.go G8.out hSw)
    (try simp only [Act.put, List.setIfInBounds_toArray, List.set_cons_zero, List.set_cons_succ])
    refine wpAnyH_take (i := 1) (oi := ?_) (v := .agg (ringC x10 N)) ?_ (by kernel_rfl) (by decide +kernel) (by decide +kernel) (fun _ _ _ h => h) ?_ (by assumption) ?_
    rotate_left 1
    focus (simp only [List.getElem?_toArray, List.getElem?_cons_succ, List.getElem?_cons_zero] <;> rfl)
    · refine yieldsX (T := 26) ?_ (.tmp 10) ?_ ⟨g10, 0, none⟩ ?_ (ringC x10 N) ?_
      focus rfl
      focus exact rfl
      focus exact rfl
      exact fun w hSw => run_loadX tyRing rfl (Bx.go G10.out hSw)
    (try simp only [Act.put, List.setIfInBounds_toArray, List.set_cons_zero, List.set_cons_succ])
    refine wpAnyH_ready (rs := [2]) (by decide +kernel) (by simp) ?_
    refine AllReadyH.cons rfl (fun K hK => ?_) AllReadyH.nil
    go_simp
    go_at_call 13
    refine (CV.out _ (RG8.out.go BB0.out) (RG10.out.go BB0.out)).mono ?_
    rintro e wz1 ⟨rfl, hb⟩
    have BB1 := Lib.hid (belG BB0.out hb BB0.out.size)
    clear hb
    refine hK.out _ _ (KEEP.out _ BB1.out) (fun hHeld => ?_)
    clear hK K
    (try simp only [Act.put, List.setIfInBounds_toArray, List.set_cons_zero, List.set_cons_succ])
    refine wpAnyH_take (i := 3) (oi := ?_) (v := ?_) ?_ (by kernel_rfl) (by decide +kernel) (by decide +kernel) (fun _ _ _ h => h) ?_ (by assumption) ?_
    rotate_left 2
    focus (simp only [List.getElem?_toArray, List.getElem?_cons_succ, List.getElem?_cons_zero] <;> rfl)
    · refine Or.inl ⟨by rfl, ?_⟩
      intro w hSw
      (try dsimp only at hSw)
      go_simp <;> with_reducible rfl
    (try simp only [Act.put, List.setIfInBounds_toArray, List.set_cons_zero, List.set_cons_succ])
    refine wpAnyH_take (i := 4) (oi := ?_) (v := ?_) ?_ (by kernel_rfl) (by decide +kernel) (by decide +kernel) (fun _ _ _ h => h) ?_ (by assumption) ?_
    rotate_left 2
    focus (simp only [List.getElem?_toArray, List.getElem?_cons_succ, List.getElem?_cons_zero] <;> rfl)
    · refine Or.inl ⟨by rfl, ?_⟩
      intro w hSw
      (try dsimp only at hSw)
      go_simp <;> with_reducible rfl
    (try simp only [Act.put, List.setIfInBounds_toArray, List.set_cons_zero, List.set_cons_succ])
    refine wpAnyH_take (i := 5) (oi := ?_) (v := ?_) ?_ (by kernel_rfl) (by decide +kernel) (by decide +kernel) (fun _ _ _ h => h) ?_ (by assumption) ?_
    rotate_left 2
    focus (simp only [List.getElem?_toArray, List.getElem?_cons_succ, List.getElem?_cons_zero] <;> rfl)
    · refine Or.inl ⟨by rfl, ?_⟩
      intro w hSw
      (try dsimp only at hSw)
      go_simp <;> with_reducible rfl
    (try simp only [Act.put, List.setIfInBounds_toArray, List.set_cons_zero, List.set_cons_succ])
    refine wpAnyH_take (i := 6) (oi := ?_) (v := ?_) ?_ (by kernel_rfl) (by decide +kernel) (by decide +kernel) (fun _ _ _ h => h) ?_ (by assumption) ?_
    rotate_left 2
    focus (simp only [List.getElem?_toArray, List.getElem?_cons_succ, List.getElem?_cons_zero] <;> rfl)
    · refine Or.inl ⟨by rfl, ?_⟩
      intro w hSw
      (try dsimp only at hSw)
      go_simp <;> with_reducible rfl
    (try simp only [Act.put, List.setIfInBounds_toArray, List.set_cons_zero, List.set_cons_succ])
    refine wpAnyH_take (i := 7) (oi := ?_) (v := ?_) ?_ (by kernel_rfl) (by decide +kernel) (by decide +kernel) (fun _ _ _ h => h) ?_ (by assumption) ?_
    rotate_left 2
    focus (simp only [List.getElem?_toArray, List.getElem?_cons_succ, List.getElem?_cons_zero] <;> rfl)
    · refine Or.inl ⟨by rfl, ?_⟩
      intro w hSw
      (try dsimp only at hSw)
      go_simp <;> with_reducible rfl
    (try simp only [Act.put, List.setIfInBounds_toArray, List.set_cons_zero, List.set_cons_succ])
    refine wpAnyH_take (i := 8) (oi := ?_) (v := ?_) ?_ (by kernel_rfl) (by decide +kernel) (by decide +kernel) (fun _ _ _ h => h) ?_ (by assumption) ?_
    rotate_left 2
    focus (simp only [List.getElem?_toArray, List.getElem?_cons_succ, List.getElem?_cons_zero] <;> rfl)
    · refine Or.inl ⟨by rfl, ?_⟩
      intro w hSw
      (try dsimp only at hSw)
      go_simp <;> with_reducible rfl
    (try simp only [Act.put, List.setIfInBounds_toArray, List.set_cons_zero, List.set_cons_succ])
    refine wpAnyH_take (i := 9) (oi := ?_) (v := ?_) ?_ (by kernel_rfl) (by decide +kernel) (by decide +kernel) (fun _ _ _ h => h) ?_ (by assumption) ?_
    rotate_left 2
    focus (simp only [List.getElem?_toArray, List.getElem?_cons_succ, List.getElem?_cons_zero] <;> rfl)
    · refine Or.inl ⟨by rfl, ?_⟩
      intro w hSw
      (try dsimp only at hSw)
      go_simp <;> with_reducible rfl
    (try simp only [Act.put, List.setIfInBounds_toArray, List.set_cons_zero, List.set_cons_succ])
    refine wpAnyH_take (i := 10) (oi := ?_) (v := .agg (ringC xa a)) ?_ (by kernel_rfl) (by decide +kernel) (by decide +kernel) (fun _ _ _ h => h) ?_ (by assumption) ?_
    rotate_left 1
    focus (simp only [List.getElem?_toArray, List.getElem?_cons_succ, List.getElem?_cons_zero] <;> rfl)
    · refine yieldsX (T := 26) ?_ (.tmp 3) ?_ ⟨g3, 0, none⟩ ?_ (ringC xa a) ?_
      focus rfl
      focus exact rfl
      focus exact rfl
      exact fun w hSw => run_loadX tyRing rfl (Bx.go G3.out hSw)
    (try simp only [Act.put, List.setIfInBounds_toArray, List.set_cons_zero, List.set_cons_succ])
    refine wpAnyH_take (i := 12) (oi := ?_) (v := ?_) ?_ (by kernel_rfl) (by decide +kernel) (by decide +kernel) (fun _ _ _ h => h) ?_ (by assumption) ?_
    rotate_left 2
    focus (simp only [List.getElem?_toArray, List.getElem?_cons_succ, List.getElem?_cons_zero] <;> rfl)
    · refine Or.inl ⟨by rfl, ?_⟩
      intro w hSw
      (try dsimp only at hSw)
      go_simp <;> with_reducible rfl
    (try simp only [Act.put, List.setIfInBounds_toArray, List.set_cons_zero, List.set_cons_succ])
    refine wpAnyH_ready (rs := [11]) (by decide +kernel) (by simp) ?_
    refine AllReadyH.cons rfl (fun K hK => ?_) AllReadyH.nil
    go_simp
    go_at_call 14
    refine (CR.out _ (RA.out.go BB1.out)).mono ?_
    rintro e wz2 ⟨rfl, hb⟩
    have BB2 := Lib.hid (belG BB1.out hb BB1.out.size)
    clear hb
    refine hK.out _ _ (KEEP.out _ BB2.out) (fun hHeld => ?_)
    clear hK K
    (try simp only [Act.put, List.setIfInBounds_toArray, List.set_cons_zero, List.set_cons_succ])
    refine wpAnyH_take (i := 13) (oi := ?_) (v := ?_) ?_ (by kernel_rfl) (by decide +kernel) (by decide +kernel) (fun _ _ _ h => h) ?_ (by assumption) ?_
    rotate_left 2
    focus (simp only [List.getElem?_toArray, List.getElem?_cons_succ, List.getElem?_cons_zero] <;> rfl)
    · refine Or.inl ⟨by rfl, ?_⟩
      intro w hSw
      (try dsimp only at hSw)
      go_simp <;> with_reducible rfl
    (try simp only [Act.put, List.setIfInBounds_toArray, List.set_cons_zero, List.set_cons_succ])
    refine wpAnyH_take (i := 14) (oi := ?_) (v := ?_) ?_ (by kernel_rfl) (by decide +kernel) (by decide +kernel) (fun _ _ _ h => h) ?_ (by assumption) ?_
    rotate_left 2
    focus (simp only [List.getElem?_toArray, List.getElem?_cons_succ, List.getElem?_cons_zero] <;> rfl)
    · refine Or.inl ⟨by rfl, ?_⟩
      intro w hSw
      (try dsimp only at hSw)
      go_simp <;> with_reducible rfl
    (try simp only [Act.put, List.setIfInBounds_toArray, List.set_cons_zero, List.set_cons_succ])
    refine wpAnyH_take (i := 15) (oi := ?_) (v := ?_) ?_ (by kernel_rfl) (by decide +kernel) (by decide +kernel) (fun _ _ _ h => h) ?_ (by assumption) ?_
    rotate_left 2
    focus (simp only [List.getElem?_toArray, List.getElem?_cons_succ, List.getElem?_cons_zero] <;> rfl)
    · refine Or.inl ⟨by rfl, ?_⟩
      intro w hSw
      (try dsimp only at hSw)
      go_simp <;> with_reducible rfl
    (try simp only [Act.put, List.setIfInBounds_toArray, List.set_cons_zero, List.set_cons_succ])
    refine wpAnyH_take (i := 16) (oi := ?_) (v := .agg (ringC xa a)) ?_ (by kernel_rfl) (by decide +kernel) (by decide +kernel) (fun _ _ _ h => h) ?_ (by assumption) ?_
    rotate_left 1
    focus (simp only [List.getElem?_toArray, List.getElem?_cons_succ, List.getElem?_cons_zero] <;> rfl)
    · refine yieldsX (T := 26) ?_ (.tmp 3) ?_ ⟨g3, 0, none⟩ ?_ (ringC xa a) ?_
      focus rfl
      focus exact rfl
      focus exact rfl
      exact fun w hSw => run_loadX tyRing rfl (Bx.go G3.out hSw)
    (try simp only [Act.put, List.setIfInBounds_toArray, List.set_cons_zero, List.set_cons_succ])
    refine wpAnyH_take (i := 17) (oi := ?_) (v := .agg (ringC xb b)) ?_ (by kernel_rfl) (by decide +kernel) (by decide +kernel) (fun _ _ _ h => h) ?_ (by assumption) ?_
    rotate_left 1
    focus (simp only [List.getElem?_toArray, List.getElem?_cons_succ, List.getElem?_cons_zero] <;> rfl)
    · refine yieldsX (T := 26) ?_ (.tmp 4) ?_ ⟨g4, 0, none⟩ ?_ (ringC xb b) ?_
      focus rfl
      focus exact rfl
      focus exact rfl
      exact fun w hSw => run_loadX tyRing rfl (Bx.go G4.out hSw)
    (try simp only [Act.put, List.setIfInBounds_toArray, List.set_cons_zero, List.set_cons_succ])
    refine wpAnyH_take (i := 19) (oi := ?_) (v := .agg (ringC xa a)) ?_ (by kernel_rfl) (by decide +kernel) (by decide +kernel) (fun _ _ _ h => h) ?_ (by assumption) ?_
    rotate_left 1
    focus (simp only [List.getElem?_toArray, List.getElem?_cons_succ, List.getElem?_cons_zero] <;> rfl)
    · refine yieldsX (T := 26) ?_ (.tmp 3) ?_ ⟨g3, 0, none⟩ ?_ (ringC xa a) ?_
      focus rfl
      focus exact rfl
      focus exact rfl
      exact fun w hSw => run_loadX tyRing rfl (Bx.go G3.out hSw)
    (try simp only [Act.put, List.setIfInBounds_toArray, List.set_cons_zero, List.set_cons_succ])
    refine wpAnyH_take (i := 20) (oi := ?_) (v := .agg (ringC xb b)) ?_ (by kernel_rfl) (by decide +kernel) (by decide +kernel) (fun _ _ _ h => h) ?_ (by assumption) ?_
    rotate_left 1
    focus (simp only [List.getElem?_toArray, List.getElem?_cons_succ, List.getElem?_cons_zero] <;> rfl)
    · refine yieldsX (T := 26) ?_ (.tmp 4) ?_ ⟨g4, 0, none⟩ ?_ (ringC xb b) ?_
      focus rfl
      focus exact rfl
      focus exact rfl
      exact fun w hSw => run_loadX tyRing rfl (Bx.go G4.out hSw)
    (try simp only [Act.put, List.setIfInBounds_toArray, List.set_cons_zero, List.set_cons_succ])
    refine wpAnyH_ready (rs := [18]) (by decide +kernel) (by simp) ?_
    refine AllReadyH.cons rfl (fun K hK => ?_) AllReadyH.nil
    go_simp
    go_at_call 15
    refine (CS.out _ (RA.out.go BB2.out) (RB.out.go BB2.out)).mono ?_
    rintro e wz3 ⟨rfl, hb⟩
    have BB3 := Lib.hid (belG BB2.out hb BB2.out.size)
    clear hb
    refine hK.out _ _ (KEEP.out _ BB3.out) (fun hHeld => ?_)
    clear hK K
    (try simp only [Act.put, List.setIfInBounds_toArray, List.set_cons_zero, List.set_cons_succ])
    refine wpAnyH_ready (rs := [21]) (by decide +kernel) (by simp) ?_
    refine AllReadyH.cons rfl (fun K hK => ?_) AllReadyH.nil
    go_simp
    go_at_call 13
    refine (CT.out _ (RA.out.go BB3.out) (RB.out.go BB3.out)).mono ?_
    rintro e wz4 ⟨rfl, hb⟩
    have BB4 := Lib.hid (belG BB3.out hb BB3.out.size)
    clear hb
    refine hK.out _ _ (KEEP.out _ BB4.out) (fun hHeld => ?_)
    clear hK K
    (try simp only [Act.put, List.setIfInBounds_toArray, List.set_cons_zero, List.set_cons_succ])
    refine wpAnyH_take (i := 22) (oi := ?_) (v := ?_) ?_ (by kernel_rfl) (by decide +kernel) (by decide +kernel) (fun _ _ _ h => h) ?_ (by assumption) ?_
    rotate_left 2
    focus (simp only [List.getElem?_toArray, List.getElem?_cons_succ, List.getElem?_cons_zero] <;> rfl)
    · refine Or.inl ⟨by rfl, ?_⟩
      intro w hSw
      (try dsimp only at hSw)
      go_simp <;> with_reducible rfl
    (try simp only [Act.put, List.setIfInBounds_toArray, List.set_cons_zero, List.set_cons_succ])
    refine wpAnyH_take (i := 23) (oi := ?_) (v := ?_) ?_ (by kernel_rfl) (by decide +kernel) (by decide +kernel) (fun _ _ _ h => h) ?_ (by assumption) ?_
    rotate_left 2
    focus (simp only [List.getElem?_toArray, List.getElem?_cons_succ, List.getElem?_cons_zero] <;> rfl)
    · refine Or.inl ⟨by rfl, ?_⟩
      intro w hSw
      (try dsimp only at hSw)
      go_simp <;> with_reducible rfl
    (try simp only [Act.put, List.setIfInBounds_toArray, List.set_cons_zero, List.set_cons_succ])
    refine wpAnyH_done (by decide +kernel) ?_ _
    refine NoPanic.normal ?_
    clear KEEP
    obtain ⟨w9, hw⟩ : ∃ x, x = wz4 := ⟨_, rfl⟩
    have hb : Below w8.heap.size w8 w9 := by rw [hw]; exact BB4.out
    rw [← hw]
    have nHB := Lib.hid (belG HB.out hb HB.out.size)
    have nRA := Lib.hid (RA.out.go hb)
    have nRB := Lib.hid (RB.out.go hb)
    have nRK := Lib.hid (RK.out.go hb)
    have nRG8 := Lib.hid (RG8.out.go hb)
    have nRG10 := Lib.hid (RG10.out.go hb)
    have nG3 := Lib.hid (Bx.go G3.out hb)
    have nG4 := Lib.hid (Bx.go G4.out hb)
    have nG8 := Lib.hid (Bx.go G8.out hb)
    have nG10 := Lib.hid (Bx.go G10.out hb)
    clear hb hw
    clear HB RA RB RK RG8 RG10 G3 G4 G8 G10
    have HB := nHB
    have RA := nRA
    have RB := nRB
    have RK := nRK
    have RG8 := nRG8
    have RG10 := nRG10
    have G3 := nG3
    have G4 := nG4
    have G8 := nG8
    have G10 := nG10
    clear nHB nRA nRB nRK nRG8 nRG10 nG3 nG4 nG8 nG10
    go_wp2_with fail
    go_ret
    exact ⟨rfl, HB.out⟩
end Go.Proofs.Ytgnccfcdonoegaa
