
/- slices.Grow, slices.Concat, slices.Clone at fields; package iso: with, without. -/
import Derived.Test.YtpfjecjfooefoaaDoorJ27
import Derived.Test.YtpfjecjfooefoaaDoorJ16
import Derived.LoopN
import Derived.Deep.RegionHeld3
import Derived.Test.YtpfjecjfooefoaaDoorJ12
import Derived.Lib.AppendZerosOnto
namespace Go.Proofs.YtpfjecjfooefoaaDoor
open Go.RowKit

def AnsGrow (w w' : World) (e : Ending) : Prop := ∃ A c, e = .returned (.slice A 0 c) ∧ OwF w' w.heap.size (.slice A 0 c) []
set_option maxRecDepth 100000 in
set_option maxHeartbeats 1000000 in
theorem growF_any (N : Nat) (hN : N ≤ 100000) (w : World) :
    Calls Tryd.prog 106 #[.slice none 0 0, .int .i64 (N : Int)] w fun e w' => AnsGrow w w' e ∧ Below w.heap.size w w' := by
  by_cases h0 : 0 < N
  · have h0i : (0 : Int) < (N : Int) := by omega
    have HG := Lib.hid (run_growF 22 w N h0 hN)
    clear h0
    go_enter Tryd.func106, Tryd.ntmps106
    go_wp2_with (at_builtin; obtain ⟨g, cap, w2, hr, h1, h2, ho, hb⟩ := HG.out; refine Lib.wpList_append_run w rfl (.tmp 20) (.tmp 21) 22 3 rfl _ _ rfl rfl _ _ hr ?_; have HO := Lib.hid ho; have HB := Lib.hid hb; clear ho hb hr)
    go_ret
    exact ⟨⟨_, cap, rfl, HO.out⟩, HB.out⟩
  · obtain rfl : N = 0 := by omega
    go_enter Tryd.func106, Tryd.ntmps106
    go_wp2
    go_ret
    exact ⟨⟨none, 0, rfl, OwF.nil⟩, Below.refl _ _⟩
/-- an answer: fields, in a row of the call's own (from block B on) -/
def AnsFs (B : Nat) (W' : World) (e : Ending) (l : List Fl) (n : Nat) : Prop := ∃ A c us, e = .returned (.slice A n c) ∧ n ≤ c ∧ c ≤ 9223372036854775807 ∧ OwF W' B (.slice A n c) us ∧ FEs W' us l
set_option maxRecDepth 100000 in
theorem AnsFs.base {B B' : Nat} {W' : World} {e : Ending} {l : List Fl} {n : Nat} (h : AnsFs B W' e l n) (hB : B' ≤ B) : AnsFs B' W' e l n := by
  obtain ⟨A, c, us, h1, h2, h3, h4, h5⟩ := h
  exact ⟨A, c, us, h1, h2, h3, h4.base hB, h5⟩

set_option maxRecDepth 100000 in
set_option maxHeartbeats 1000000 in
theorem concatF2_any (g : Nat) (A B : Option Addr) (l m : List Fl) (p q c d : Nat) (w : World) (hp : p = l.length) (hq : q = m.length) (hle : p ≤ 10000) (hle2 : q ≤ 10000)
    (hg : w.heap[g]? = some (.cells #[.slice A p c, .slice B q d] 22 (0, 0))) (hr : RdF w w.heap.size A l) (hs : RdF w w.heap.size B m) :
    Calls Tryd.prog 94 #[.slice (some ⟨g, 0, none⟩) 2 2] w fun e w' => AnsFs w.heap.size w' e (l ++ m) (p + q) ∧ Below w.heap.size w w' := by
  obtain ⟨us, hul, hue, huc⟩ := rdF_cf hr
  obtain ⟨vs, hvl, hve, hvc⟩ := rdF_cf hs
  have RG := Lib.hid (fun w' (h : Below w.heap.size w w') => oldG hg h (Nat.le_refl _))
  have R0 := Lib.hid (fun w' (h : Below w.heap.size w w') => (cG2 (RG.out w' h)).1)
  have R1 := Lib.hid (fun w' (h : Below w.heap.size w w') => (cG2 (RG.out w' h)).2)
  have CU := Lib.hid (fun w' (h : Below w.heap.size w w') => huc.below h (Nat.le_refl _))
  have CV := Lib.hid (fun w' (h : Below w.heap.size w w') => hvc.below h (Nat.le_refl _))
  have HE := Lib.hid (fun w' (h : Below w.heap.size w w') => ((hue.append hve).below h (Nat.le_refl _)).more h.size)
  have HNU := Lib.hid hue.nf
  have HNV := Lib.hid hve.nf
  have HU := Lib.hid (show p = us.length by rw [hp, hul])
  have HV := Lib.hid (show q = vs.length by rw [hq, hvl])
  have CG := Lib.hid (growF_any (p + q) (by omega) w)
  have c0 := R0.out w (Below.refl _ _)
  have c1 := R1.out w (Below.refl _ _)
  have hn0 : ¬ (p : Int) < 0 := by omega
  have hn1 : ¬ (p : Int) + (q : Int) < 0 := by omega
  have e1 : ((p + q : Nat) : Int) = (p : Int) + (q : Int) := by omega
  rw [e1] at CG
  clear hg hr hs hp hq hul hue huc hvl hve hvc e1
  go_enter Tryd.func94, Tryd.ntmps94
  go_wp2
  refine wp_loop_rounds 3 ?_
  rw [rounds_succ]
  go_wp2
  rw [rounds_succ]
  go_wp2
  rw [rounds_succ]
  go_wp2_with fail
  refine CG.out.mono ?_
  rintro e w1 ⟨⟨Q, cap, rfl, ho⟩, hb⟩
  have HO := Lib.hid ho
  have HB := Lib.hid hb
  have k0 := R0.out _ hb
  clear ho hb c0 c1
  go_wp2_with fail
  refine wp_loop_rounds 3 ?_
  rw [rounds_succ]
  go_wp2_with (at_builtin; (refine wpList_appFs w1 rfl (.tmp 31) (.tmp 32) rfl w.heap.size _ [] us rfl HO.out A p c w.heap.size rfl HU.out (by exact CU.out _ HB.out) HNU.out (by rw [← HU.out]; simp only [List.length_nil]; omega) HB.out.size ?_); intro v2 w2 hown2 hgrow2; have HB2 := Lib.hid (OwF.below (w0 := w) HO.out HB.out hgrow2 HB.out.size); rw [List.nil_append] at hown2; have HO2 := Lib.hid hown2; obtain ⟨Au, cu, eu, hu1, hu2⟩ := hown2.form; rw [← HU.out] at eu; subst eu; have k1 := R1.out _ HB2.out; clear hown2 hgrow2 hu1)
  rw [rounds_succ]
  go_wp2_with (at_builtin; (refine wpList_appFs w2 rfl (.tmp 31) (.tmp 32) rfl w.heap.size _ us vs rfl HO2.out B q d w.heap.size rfl HV.out (by exact CV.out _ HB2.out) HNV.out (by rw [← HU.out, ← HV.out]; omega) HB2.out.size ?_); intro v3 w3 hown3 hgrow3; have HB3 := Lib.hid (OwF.below (w0 := w) HO2.out HB2.out hgrow3 HB2.out.size); obtain ⟨At, ct, et, ht1, ht2⟩ := hown3.form; rw [List.length_append, ← HU.out, ← HV.out] at et ht1; subst et; have HC3 := Lib.hid hown3; clear hown3 hgrow3)
  rw [rounds_succ]
  go_wp2_with fail
  go_ret
  exact ⟨⟨At, ct, _, rfl, ht1, ht2, HC3.out, HE.out _ HB3.out⟩, HB3.out⟩

set_option maxRecDepth 100000 in
set_option maxHeartbeats 1000000 in
theorem concatF3_any (g : Nat) (A B C : Option Addr) (l m k : List Fl) (p q r c d f : Nat) (w : World) (hp : p = l.length) (hq : q = m.length) (hr0 : r = k.length) (hle : p ≤ 10000) (hle2 : q ≤ 10000) (hle3 : r ≤ 10000)
    (hg : w.heap[g]? = some (.cells #[.slice A p c, .slice B q d, .slice C r f] 22 (0, 0))) (hr : RdF w w.heap.size A l) (hs : RdF w w.heap.size B m) (ht : RdF w w.heap.size C k) :
    Calls Tryd.prog 94 #[.slice (some ⟨g, 0, none⟩) 3 3] w fun e w' => AnsFs w.heap.size w' e (l ++ m ++ k) (p + q + r) ∧ Below w.heap.size w w' := by
  obtain ⟨us, hul, hue, huc⟩ := rdF_cf hr
  obtain ⟨vs, hvl, hve, hvc⟩ := rdF_cf hs
  obtain ⟨xs, hxl, hxe, hxc⟩ := rdF_cf ht
  have RG := Lib.hid (fun w' (h : Below w.heap.size w w') => oldG hg h (Nat.le_refl _))
  have R0 := Lib.hid (fun w' (h : Below w.heap.size w w') => (cG3 (RG.out w' h)).1)
  have R1 := Lib.hid (fun w' (h : Below w.heap.size w w') => (cG3 (RG.out w' h)).2.1)
  have R2 := Lib.hid (fun w' (h : Below w.heap.size w w') => (cG3 (RG.out w' h)).2.2)
  have CU := Lib.hid (fun w' (h : Below w.heap.size w w') => huc.below h (Nat.le_refl _))
  have CV := Lib.hid (fun w' (h : Below w.heap.size w w') => hvc.below h (Nat.le_refl _))
  have CX := Lib.hid (fun w' (h : Below w.heap.size w w') => hxc.below h (Nat.le_refl _))
  have HE := Lib.hid (fun w' (h : Below w.heap.size w w') => (((hue.append hve).append hxe).below h (Nat.le_refl _)).more h.size)
  have HNU := Lib.hid hue.nf
  have HNV := Lib.hid hve.nf
  have HNX := Lib.hid hxe.nf
  have HU := Lib.hid (show p = us.length by rw [hp, hul])
  have HV := Lib.hid (show q = vs.length by rw [hq, hvl])
  have HX := Lib.hid (show r = xs.length by rw [hr0, hxl])
  have CG := Lib.hid (growF_any (p + q + r) (by omega) w)
  have c0 := R0.out w (Below.refl _ _)
  have c1 := R1.out w (Below.refl _ _)
  have c2 := R2.out w (Below.refl _ _)
  have hn0 : ¬ (p : Int) < 0 := by omega
  have hn1 : ¬ (p : Int) + (q : Int) < 0 := by omega
  have hn2 : ¬ (p : Int) + (q : Int) + (r : Int) < 0 := by omega
  have e1 : ((p + q + r : Nat) : Int) = (p : Int) + (q : Int) + (r : Int) := by omega
  rw [e1] at CG
  clear hg hr hs ht hp hq hr0 hul hue huc hvl hve hvc hxl hxe hxc e1
  go_enter Tryd.func94, Tryd.ntmps94
  go_wp2
  refine wp_loop_rounds 4 ?_
  rw [rounds_succ]
  go_wp2
  rw [rounds_succ]
  go_wp2
  rw [rounds_succ]
  go_wp2
  rw [rounds_succ]
  go_wp2_with fail
  refine CG.out.mono ?_
  rintro e w1 ⟨⟨Q, cap, rfl, ho⟩, hb⟩
  have HO := Lib.hid ho
  have HB := Lib.hid hb
  have k0 := R0.out _ hb
  clear ho hb c0 c1 c2
  go_wp2_with fail
  refine wp_loop_rounds 4 ?_
  rw [rounds_succ]
  go_wp2_with (at_builtin; (refine wpList_appFs w1 rfl (.tmp 31) (.tmp 32) rfl w.heap.size _ [] us rfl HO.out A p c w.heap.size rfl HU.out (by exact CU.out _ HB.out) HNU.out (by rw [← HU.out]; simp only [List.length_nil]; omega) HB.out.size ?_); intro v2 w2 hown2 hgrow2; have HB2 := Lib.hid (OwF.below (w0 := w) HO.out HB.out hgrow2 HB.out.size); rw [List.nil_append] at hown2; have HO2 := Lib.hid hown2; obtain ⟨Au, cu, eu, hu1, hu2⟩ := hown2.form; rw [← HU.out] at eu; subst eu; have k1 := R1.out _ HB2.out; clear hown2 hgrow2 hu1)
  rw [rounds_succ]
  go_wp2_with (at_builtin; (refine wpList_appFs w2 rfl (.tmp 31) (.tmp 32) rfl w.heap.size _ us vs rfl HO2.out B q d w.heap.size rfl HV.out (by exact CV.out _ HB2.out) HNV.out (by rw [← HU.out, ← HV.out]; omega) HB2.out.size ?_); intro v3 w3 hown3 hgrow3; have HB3 := Lib.hid (OwF.below (w0 := w) HO2.out HB2.out hgrow3 HB2.out.size); have HO3 := Lib.hid hown3; obtain ⟨At, ct, et, ht1, ht2⟩ := hown3.form; rw [List.length_append, ← HU.out, ← HV.out] at et; subst et; have k2 := R2.out _ HB3.out; clear hown3 hgrow3 ht1)
  rw [rounds_succ]
  go_wp2_with (at_builtin; (refine wpList_appFs w3 rfl (.tmp 31) (.tmp 32) rfl w.heap.size _ (us ++ vs) xs rfl HO3.out C r f w.heap.size rfl HX.out (by exact CX.out _ HB3.out) HNX.out (by rw [List.length_append, ← HU.out, ← HV.out, ← HX.out]; omega) HB3.out.size ?_); intro v4 w4 hown4 hgrow4; have HB4 := Lib.hid (OwF.below (w0 := w) HO3.out HB3.out hgrow4 HB3.out.size); obtain ⟨Ax, cx, ex, hx1, hx2⟩ := hown4.form; rw [List.length_append, List.length_append, ← HU.out, ← HV.out, ← HX.out] at ex hx1; subst ex; have HC4 := Lib.hid hown4; clear hown4 hgrow4)
  rw [rounds_succ]
  go_wp2_with fail
  go_ret
  exact ⟨⟨Ax, cx, _, rfl, hx1, hx2, HC4.out, HE.out _ HB4.out⟩, HB4.out⟩
/-- an answer: a row of the call's own, whose bytes lie below B -/
def AnsOwF (B : Nat) (W' : World) (e : Ending) (l : List Fl) : Prop := ∃ v us, e = .returned v ∧ OwF W' B v us ∧ FEb W' B us l
set_option maxRecDepth 100000 in
set_option maxHeartbeats 1000000 in
theorem cloneF_any (A : Option Addr) (l : List Fl) (c : Nat) (w : World) (hl : l.length ≤ 1000) (hr : RdF w w.heap.size A l) :
    Calls Tryd.prog 92 #[.slice A l.length c] w fun e w' => AnsOwF w.heap.size w' e l ∧ Below w.heap.size w w' := by
  obtain ⟨us, hul, hue, huc⟩ := rdF_cf hr
  obtain ⟨n, hn⟩ : ∃ n, n = l.length := ⟨_, rfl⟩
  have HN := Lib.hid hn
  have HU := Lib.hid (show n = us.length by rw [hul, hn])
  rw [← hn] at hl ⊢
  cases A with
  | none =>
    have hn0 : n = 0 := by
      by_cases h0 : 0 < n
      · obtain ⟨b, o, e, _⟩ := hr (by omega); cases e
      · omega
    have HL := Lib.hid (show l = [] from List.eq_nil_of_length_eq_zero (by omega))
    subst hn0
    clear hn hul hue huc hr
    have he : ∀ W : World, (binOp .eql 22 (.slice none 0 c) (.slice none 0 0)).run Tryd.prog W = .ok (.bool true) W := fun _ => rfl
    go_enter Tryd.func92, Tryd.ntmps92
    go_wp2
    go_ret
    exact ⟨⟨_, [], rfl, OwF.nil, by rw [HL.out]; exact ⟨rfl, fun j h => absurd h (by simp)⟩⟩, Below.refl _ _⟩
  | some ad =>
    have HB0 := Lib.hid ((Below.refl w.heap.size w).alloc (Nat.le_refl _) (.cells #[] 60))
    have HC := Lib.hid huc
    have HE := Lib.hid hue
    clear hn hul hue huc hr
    have he : ∀ W : World, (binOp .eql 22 (.slice (some ad) n c) (.slice none 0 0)).run Tryd.prog W = .ok (.bool false) W := fun _ => rfl
    go_enter Tryd.func92, Tryd.ntmps92
    go_wp2_with (at_builtin; (refine wpList_appFs _ rfl (.tmp 5) (.tmp 6) rfl w.heap.size _ [] us rfl (by exact OwF.made0 w (Nat.le_refl _)) (some ad) n c w.heap.size rfl HU.out (by exact HC.out.below HB0.out (Nat.le_refl _)) HE.out.nf (by rw [← HU.out]; simp only [List.length_nil]; omega) (by exact HB0.out.size) ?_); intro v2 w2 hown2 hgrow2; have HB2 := Lib.hid (OwF.below (w0 := w) (by exact OwF.made0 w (Nat.le_refl _)) HB0.out hgrow2 HB0.out.size); rw [List.nil_append] at hown2; have HO := Lib.hid hown2; clear hown2 hgrow2)
    go_ret
    exact ⟨⟨v2, us, rfl, HO.out, HE.out.below HB2.out (Nat.le_refl _)⟩, HB2.out⟩

set_option maxRecDepth 100000 in
/-- one field, just laid in a block of its own -/
theorem rdF_new1 (w : World) (no : Int) (B : Option Addr) (v : List UInt8) (d : Nat) (hd : v.length ≤ d) (hdm : d ≤ 9223372036854775807) (hs : Rd w w.heap.size B v) : RdF (w.alloc (.cells #[.int .i64 no, .slice B v.length d] 60)) (w.heap.size + 1) (some ⟨w.heap.size, 0, none⟩) [(no, v)] := by
  obtain ⟨f0, f1⟩ := cG2 (heap_alloc_new w (.cells #[.int .i64 no, .slice B v.length d] 60))
  have hb := (Below.refl w.heap.size w).alloc (Nat.le_refl _) (.cells #[.int .i64 no, .slice B v.length d] 60)
  refine fun _ => ⟨w.heap.size, 0, rfl, by omega, fun j hj => ?_⟩
  obtain rfl : j = 0 := by simpa using hj
  exact ⟨B, d, f0, f1, hd, hdm, (hs.below hb (Nat.le_refl _)).more (by omega)⟩
set_option maxRecDepth 100000 in
theorem concatW_any (A1 A2 B : Option Addr) (l m : List Fl) (no : Int) (v : List UInt8) (p q z c1 c2 d : Nat) (w : World) (hp : p = l.length) (hq : q = m.length) (hz : z = v.length) (hle : p ≤ 10000) (hle2 : q ≤ 10000) (hd : z ≤ d) (hdm : d ≤ 9223372036854775807)
    (hr : RdF w w.heap.size A1 l) (hs : RdF w w.heap.size A2 m) (ht : Rd w w.heap.size B v) :
    Calls Tryd.prog 94 #[.slice (some ⟨w.heap.size + 1, 0, none⟩) 3 3] ((w.alloc (.cells #[.int .i64 no, .slice B z d] 60)).alloc (.cells #[.slice A1 p c1, .slice (some ⟨w.heap.size, 0, none⟩) 1 1, .slice A2 q c2] 22))
      fun e w' => AnsFs w.heap.size w' e (l ++ [(no, v)] ++ m) (p + 1 + q) ∧ Below w.heap.size w w' := by
  subst hz
  have ha := (Below.refl w.heap.size w).alloc (Nat.le_refl _) (.cells #[.int .i64 no, .slice B v.length d] 60)
  have h1 := rdF_new1 w no B v d hd hdm ht
  have hs1 : (w.alloc (.cells #[.int .i64 no, .slice B v.length d] 60)).heap.size = w.heap.size + 1 := by rw [World.size_alloc]
  have hg := heap_alloc_new (w.alloc (.cells #[.int .i64 no, .slice B v.length d] 60)) (.cells #[.slice A1 p c1, .slice (some ⟨w.heap.size, 0, none⟩) 1 1, .slice A2 q c2] 22)
  generalize hw1 : w.alloc (.cells #[.int .i64 no, .slice B v.length d] 60) = w1 at *
  rw [← hs1] at h1 ⊢
  have hb := (Below.refl w1.heap.size w1).alloc (Nat.le_refl _) (.cells #[.slice A1 p c1, .slice (some ⟨w.heap.size, 0, none⟩) 1 1, .slice A2 q c2] 22)
  have hB := belG ha hb ha.size
  exact (concatF3_any w1.heap.size A1 (some ⟨w.heap.size, 0, none⟩) A2 l [(no, v)] m p 1 q c1 1 c2 _ hp rfl hq hle (by omega) hle2 hg ((hr.below hB (Nat.le_refl _)).more hB.size) ((h1.below hb (Nat.le_refl _)).more hb.size) ((hs.below hB (Nat.le_refl _)).more hB.size)).mono fun e w' h => ⟨h.1.base hB.size, belG hB h.2 hB.size⟩

set_option maxRecDepth 100000 in
set_option maxHeartbeats 4000000 in
theorem with_any (A : Option Addr) (l : List Fl) (c : Nat) (no : Int) (B : Option Addr) (v : List UInt8) (d : Nat) (W : World) (hl : l.length ≤ 1000) (hc : l.length ≤ c) (hcm : c ≤ 9223372036854775807) (hu : UpF l) (hr : RdF W W.heap.size A l) (hd : v.length ≤ d) (hdm : d ≤ 9223372036854775807) (hs : Rd W W.heap.size B v) :
    Calls Tryd.prog 63 #[rowsV A l.length c, .agg #[.int .i64 no, .slice B v.length d]] W fun e W' => AnsFs W.heap.size W' e (setL l no v) (setL l no v).length ∧ Below W.heap.size W W' := by
  obtain ⟨V, hV, hb, g1, g2⟩ := box2 W #[.slice A l.length c, noV] #[.int .i64 no, .slice B v.length d] 68 60
  have HSL := Lib.hid (show (setL l no v).length = (ltF l no).length + 1 + (gtF l no).length by unfold setL; rw [List.length_append, List.length_append]; rfl)
  have HSE := Lib.hid (show ltF l no ++ [(no, v)] ++ gtF l no = setL l no v from rfl)
  have CA := Lib.hid (fun w (h : Below V.heap.size V w) => around_any A l c no w hl hc hcm hu ((hr.go hb).go h))
  have HLE := Lib.hid (show (ltF l no).length ≤ 10000 ∧ (gtF l no).length ≤ 10000 from ⟨Nat.le_trans (List.length_filter_le _ _) (by omega), Nat.le_trans (List.length_filter_le _ _) (by omega)⟩)
  have RB := Lib.hid (fun w (h : Below V.heap.size V w) => (hs.go hb).go h)
  have CN := Lib.hid noF_any
  have HB := Lib.hid hb
  have HG1 := Lib.hid g1
  have HG2 := Lib.hid g2
  have CX := Lib.hid (fun A1 A2 c1 c2 w (h : Below V.heap.size V w) h1 h2 => concatW_any A1 A2 B (ltF l no) (gtF l no) no v (ltF l no).length (gtF l no).length v.length c1 c2 d w rfl rfl rfl HLE.out.1 HLE.out.2 hd hdm h1 h2 (RB.out w h))
  rw [HSE.out] at CX
  rw [HSL.out]
  generalize ltF l no = L1 at *
  generalize gtF l no = L2 at *
  generalize setL l no v = R at *
  obtain ⟨p, hp⟩ : ∃ p, p = L1.length := ⟨_, rfl⟩
  obtain ⟨q, hq⟩ : ∃ q, q = L2.length := ⟨_, rfl⟩
  rw [← hp, ← hq] at CX ⊢
  unfold AnsAr at CA
  rw [← hp, ← hq] at CA
  obtain ⟨n, hn⟩ : ∃ n, n = l.length := ⟨_, rfl⟩
  rw [← hn] at HG1 CA hV
  rw [← hn]
  obtain ⟨z, hz⟩ : ∃ z, z = v.length := ⟨_, rfl⟩
  rw [← hz] at HG2 CX hV
  rw [← hz]
  obtain ⟨s, hss⟩ : ∃ s, s = W.heap.size := ⟨_, rfl⟩
  have HV := Lib.hid hV
  have HS := Lib.hid hss
  have BB0 := Lib.hid ((Below.refl V.heap.size V).drew)
  have KEEP := Lib.hid (fun w' (h : Below V.heap.size V w') => (show Below V.heap.size V w' ∧ w'.cell? ⟨s, 0, none⟩ = some (.slice A n c) ∧ w'.cell? ⟨s, 1, none⟩ = some noV ∧ w'.cell? ⟨s + 1, 0, none⟩ = some (.int .i64 no) ∧ w'.cell? ⟨s + 1, 1, none⟩ = some (.slice B z d) from by
    rw [hss]
    exact ⟨h, (cG2 (oldG HG1.out h (Nat.le_refl _))).1, (cG2 (oldG HG1.out h (Nat.le_refl _))).2, (cG2 (oldG HG2.out h (Nat.le_refl _))).1, (cG2 (oldG HG2.out h (Nat.le_refl _))).2⟩))
  clear hV hb g1 g2 hr hu hs hc hcm hd hdm hl hn hz hp hq hss HSL HSE HLE RB HG1 HG2
  go_enter Tryd.func63, Tryd.ntmps63
  go_wp2_with fail
  rw [← HV.out]
  clear HV
  rw [← HS.out]
  go_region_held3 (fun w' => Below V.heap.size V w' ∧ w'.cell? ⟨s, 0, none⟩ = some (.slice A n c) ∧ w'.cell? ⟨s, 1, none⟩ = some noV ∧ w'.cell? ⟨s + 1, 0, none⟩ = some (.int .i64 no) ∧ w'.cell? ⟨s + 1, 1, none⟩ = some (.slice B z d))
    (first | with_reducible exact KEEP.out _ BB0.out | with_reducible exact KEEP.out _ BB1.out | with_reducible exact KEEP.out _ BB2.out)
    (first
    | (go_at_call 73; refine (CN.out _ _ _ _ _).mono ?_; rintro e wa ⟨rfl, hb⟩; have BB1 := Lib.hid (belG BB0.out hb BB0.out.size); clear hb)
    | (go_at_call 93; refine (CA.out _ BB1.out).mono ?_; rintro e wb ⟨⟨A1, c1, A2, c2, rfl, q1, q2⟩, hb⟩; have BB2 := Lib.hid (belG BB1.out hb BB1.out.size); have R1 := Lib.hid (q1.more hb.size); have R2 := Lib.hid (q2.more hb.size); clear hb q1 q2))
  all_goals
    obtain ⟨-, -, -, f0, f1⟩ := KEEP.out _ BB2.out
    clear BB0 BB1 KEEP CN CA
    go_wp2_with fail
    refine (CX.out A1 A2 c1 c2 _ BB2.out R1.out R2.out).mono ?_
    rintro e wc ⟨⟨A3, c3, u3, rfl, a1, a2, a3, a4⟩, hb⟩
    have HB3 := Lib.hid (belG BB2.out hb BB2.out.size)
    have R3 := Lib.hid (a3.base (Nat.le_trans HB.out.size BB2.out.size))
    have R4 := Lib.hid a4
    clear hb a3 a4
    go_wp2
    go_ret
    exact ⟨⟨A3, c3, u3, rfl, a1, a2, R3.out, R4.out⟩, belG HB.out HB3.out HB.out.size⟩
set_option maxRecDepth 100000 in
theorem drop_parts (l : List Fl) (no : Int) (hu : UpF l) : ltF l no ++ gtF l no = dropF l no := by
  induction l with
  | nil => rfl
  | cons x r ih =>
    have hu2 := List.pairwise_cons.1 hu
    have ih' := ih hu2.2
    unfold ltF gtF dropF at ih' ⊢
    rcases Int.lt_trichotomy x.1 no with h | h | h
    · rw [List.filter_cons_of_pos (by simpa using h), List.filter_cons_of_neg (by simp; omega), List.filter_cons_of_pos (by simp; omega), List.cons_append, ih']
    · rw [List.filter_cons_of_neg (by simp; omega), List.filter_cons_of_neg (by simp; omega), List.filter_cons_of_neg (by simp; omega), ih']
    · have h1 : r.filter (fun x => decide (x.1 < no)) = [] := filter_no (fun y hy => decide_eq_false (by have := hu2.1 y hy; omega))
      rw [h1, List.nil_append] at ih'
      rw [List.filter_cons_of_neg (by simp; omega), h1, List.nil_append, List.filter_cons_of_pos (by simpa using h), List.filter_cons_of_pos (by simp; omega), ih']
set_option maxRecDepth 100000 in
theorem concatO_any (A1 A2 : Option Addr) (l m : List Fl) (p q c1 c2 : Nat) (w : World) (hp : p = l.length) (hq : q = m.length) (hle : p ≤ 10000) (hle2 : q ≤ 10000)
    (hr : RdF w w.heap.size A1 l) (hs : RdF w w.heap.size A2 m) :
    Calls Tryd.prog 94 #[.slice (some ⟨w.heap.size, 0, none⟩) 2 2] (w.alloc (.cells #[.slice A1 p c1, .slice A2 q c2] 22)) fun e w' => AnsFs w.heap.size w' e (l ++ m) (p + q) ∧ Below w.heap.size w w' := by
  have ha := (Below.refl w.heap.size w).alloc (Nat.le_refl _) (.cells #[.slice A1 p c1, .slice A2 q c2] 22)
  exact (concatF2_any w.heap.size A1 A2 l m p q c1 c2 _ hp hq hle hle2 (heap_alloc_new w _) (hr.go ha) (hs.go ha)).mono fun e w' h => ⟨h.1.base ha.size, belG ha h.2 ha.size⟩

set_option maxRecDepth 100000 in
set_option maxHeartbeats 4000000 in
theorem without_any (A : Option Addr) (l : List Fl) (c : Nat) (no : Int) (W : World) (hl : l.length ≤ 1000) (hc : l.length ≤ c) (hcm : c ≤ 9223372036854775807) (hu : UpF l) (hr : RdF W W.heap.size A l) :
    Calls Tryd.prog 66 #[rowsV A l.length c, .int .i64 no] W fun e W' => AnsFs W.heap.size W' e (dropF l no) (dropF l no).length ∧ Below W.heap.size W W' := by
  have hb := (Below.refl W.heap.size W).alloc (Nat.le_refl _) (.cells #[.slice A l.length c, noV] 68)
  have CA := Lib.hid (around_any A l c no _ hl hc hcm hu (hr.go hb))
  have HB := Lib.hid hb
  have HSE := drop_parts l no hu
  have HLE := Lib.hid (show (ltF l no).length ≤ 10000 ∧ (gtF l no).length ≤ 10000 from ⟨Nat.le_trans (List.length_filter_le _ _) (by omega), Nat.le_trans (List.length_filter_le _ _) (by omega)⟩)
  rw [← HSE, List.length_append]
  have CX := Lib.hid (fun A1 A2 c1 c2 w h1 h2 => concatO_any A1 A2 (ltF l no) (gtF l no) (ltF l no).length (gtF l no).length c1 c2 w rfl rfl HLE.out.1 HLE.out.2 h1 h2)
  generalize ltF l no = L1 at *
  generalize gtF l no = L2 at *
  obtain ⟨p, hp⟩ : ∃ p, p = L1.length := ⟨_, rfl⟩
  obtain ⟨q, hq⟩ : ∃ q, q = L2.length := ⟨_, rfl⟩
  rw [← hp, ← hq] at CX ⊢
  unfold AnsAr at CA
  rw [← hp, ← hq] at CA
  generalize l.length = n at *
  clear hb hr hu hc hcm hl hp hq HSE HLE
  go_enter Tryd.func66, Tryd.ntmps66
  go_wp2_with (with_reducible refine at_listG ?_; refine loadR _ (.tmp 2) W.heap.size _ _ (by exact heap_alloc_new W _) rfl rfl rfl ?_)
  refine CA.out.mono ?_
  rintro e wb ⟨⟨A1, c1, A2, c2, rfl, q1, q2⟩, hb⟩
  have HB2 := Lib.hid (belG HB.out hb HB.out.size)
  have R1 := Lib.hid (q1.more hb.size)
  have R2 := Lib.hid (q2.more hb.size)
  clear hb q1 q2 CA
  go_wp2_with fail
  refine (CX.out A1 A2 c1 c2 _ R1.out R2.out).mono ?_
  rintro e wc ⟨⟨A3, c3, u3, rfl, a1, a2, a3, a4⟩, hb⟩
  have HB3 := Lib.hid (belG HB2.out hb HB2.out.size)
  have R3 := Lib.hid (a3.base HB2.out.size)
  have R4 := Lib.hid a4
  clear hb a3 a4
  go_wp2
  go_ret
  exact ⟨⟨A3, c3, u3, rfl, a1, a2, R3.out, R4.out⟩, HB3.out⟩
end Go.Proofs.YtpfjecjfooefoaaDoor
/- bytes.Clone, slices.Grow, slices.Concat at bytes. -/

namespace Go.Proofs.YtpfjecjfooefoaaDoor
open Go.RowKit

/-- a call's answer: a slice that reads as l -/
def AnsB5 (W' : World) (e : Ending) (l : List UInt8) (n : Nat) : Prop := ∃ A c, e = .returned (.slice A n c) ∧ n ≤ c ∧ c ≤ 9223372036854775807 ∧ Rd W' W'.heap.size A l

set_option maxRecDepth 100000 in
set_option maxHeartbeats 1000000 in
theorem clone5_any (K : Option Addr) (k : List UInt8) (kc : Nat) (w : World) (hl : k.length ≤ 100000) (hr : Rd w w.heap.size K k) :
    Calls Tryd.prog 64 #[.slice K k.length kc] w fun e w' => AnsB5 w' e k k.length ∧ Below w.heap.size w w' := by
  obtain ⟨n, hn⟩ : ∃ n, n = k.length := ⟨_, rfl⟩
  have HN := Lib.hid hn
  rw [← hn]
  rw [← hn] at hl
  clear hn
  cases K with
  | none =>
    have hk : k = [] := by
      apply List.eq_nil_of_length_eq_zero
      by_cases h0 : 0 < k.length
      · obtain ⟨b, o, e, _⟩ := hr h0; cases e
      · omega
    have hn0 : n = 0 := by rw [HN.out, hk]; rfl
    subst hn0
    have HK := Lib.hid hk
    clear hk hr
    have he : ∀ W : World, (binOp .eql 27 (.slice none 0 kc) (.slice none 0 0)).run Tryd.prog W = .ok (.bool true) W := fun _ => rfl
    go_enter Tryd.func64, Tryd.ntmps64
    go_wp2
    go_ret
    exact ⟨⟨none, 0, rfl, Nat.le_refl _, by omega, by rw [HK.out]; exact Rd.nil⟩, Below.refl _ _⟩
  | some ad =>
    have HB0 := Lib.hid ((Below.refl w.heap.size w).alloc (Nat.le_refl _) (.cells #[] 5))
    have HR := Lib.hid hr
    clear hr
    have he : ∀ W : World, (binOp .eql 27 (.slice (some ad) n kc) (.slice none 0 0)).run Tryd.prog W = .ok (.bool false) W := fun _ => rfl
    go_enter Tryd.func64, Tryd.ntmps64
    go_wp2_with (at_builtin; (refine wpList_appS _ rfl (.tmp 5) (.tmp 6) rfl w.heap.size _ [] k rfl (by exact Ow.made0 w (Nat.le_refl _)) (some ad) n kc w.heap.size rfl HN.out (by exact HR.out.below HB0.out (Nat.le_refl _)) (by rw [← HN.out]; simp only [List.length_nil]; omega) (by exact HB0.out.size) ?_); intro v2 w2 hown2 hgrow2; have HB2 := Lib.hid (Ow.below (w0 := w) (by exact Ow.made0 w (Nat.le_refl _)) HB0.out hgrow2 HB0.out.size); obtain ⟨Au, cu, eu, hu1, hu2, hu3⟩ := hown2.form; rw [List.nil_append, ← HN.out] at eu hu1; rw [List.nil_append] at hu3; subst eu; have HU := Lib.hid hu3; clear hown2 hgrow2 hu3)
    go_ret
    exact ⟨⟨Au, cu, rfl, hu1, hu2, HU.out⟩, HB2.out⟩

set_option maxRecDepth 100000 in
theorem run_grow5 (ty : TypeId) (w : World) (N : Nat) (h0 : 0 < N) (hN : N ≤ 100000) :
    ∃ g cap w', (Builtin.append_ #[27, 3] ty #[.slice none 0 0, .int .i64 N]).run Tryd.prog w = .ok (.slice (some ⟨g, 0, none⟩) N cap) w' ∧ N ≤ cap ∧ cap ≤ 9223372036854775807 ∧ Ow w' w.heap.size (.slice (some ⟨g, 0, none⟩) 0 cap) [] ∧ Below w.heap.size w w' := by
  obtain ⟨i0, hi, hz0, hz1, hz2⟩ := info_parts info5
  have hrun := Lib.run_append_nil_zeros (P := Tryd.prog) w 27 3 ty 5 i0 (.int .u8 0) .i64 .i64 Tryd.underlying27 Tryd.underlying3 hi hz0 N h0 (by rw [hz1]; omega) (by omega) (by rw [hz2]; omega)
  have hge := grownCap_ge w N 0 5
  have hcm : grownCap w N 0 5 ≤ maxLen := grownCap_le_maxLen w N 0 5 (by unfold maxLen; omega)
  have hzc : (Value.int .u8 0).cells.size = 1 := rfl
  refine ⟨_, _, _, hrun, hge, by simpa [maxLen] using hcm, ⟨rfl, .inr ⟨w.heap.size, _, _, rfl, Nat.le_refl _, heap_alloc_new w.drew _, Nat.zero_le _, hcm, ?_, ?_⟩⟩, (Below.refl _ _).drew.alloc (Nat.le_refl _) _⟩
  · simp only [Array.size_append, size_zeroCells, hzc]
    omega
  · simp [cs]

set_option maxRecDepth 100000 in
set_option maxHeartbeats 1000000 in
theorem grow5_any (N : Nat) (h0 : 0 < N) (hN : N ≤ 100000) (w : World) :
    Calls Tryd.prog 74 #[.slice none 0 0, .int .i64 N] w fun e w' => (∃ g cap, e = .returned (.slice (some ⟨g, 0, none⟩) 0 cap) ∧ Ow w' w.heap.size (.slice (some ⟨g, 0, none⟩) 0 cap) []) ∧ Below w.heap.size w w' := by
  have h0i : (0 : Int) < (N : Int) := by omega
  have HG := Lib.hid (run_grow5 27 w N h0 hN)
  clear h0
  go_enter Tryd.func74, Tryd.ntmps74
  go_wp2_with (at_builtin; obtain ⟨g, cap, w2, hr, h1, h2, ho, hb⟩ := HG.out; refine Lib.wpList_append_run w rfl (.tmp 20) (.tmp 21) 27 3 rfl _ _ rfl rfl _ _ hr ?_; have HO := Lib.hid ho; have HB := Lib.hid hb; clear ho hb hr)
  go_ret
  exact ⟨⟨g, cap, rfl, HO.out⟩, HB.out⟩

set_option maxRecDepth 100000 in
set_option maxHeartbeats 1000000 in
theorem concat5_any (g : Nat) (A B : Option Addr) (us vs : List UInt8) (n m c d : Nat) (w : World) (hn : n = us.length) (hm : m = vs.length) (h0 : 0 < n + m) (hle : n ≤ 10000) (hle2 : m ≤ 10000)
    (hg : w.heap[g]? = some (.cells #[.slice A n c, .slice B m d] 27 (0, 0))) (hr : Rd w w.heap.size A us) (hs : Rd w w.heap.size B vs) :
    Calls Tryd.prog 40 #[.slice (some ⟨g, 0, none⟩) 2 2] w fun e w' => AnsB5 w' e (us ++ vs) (n + m) ∧ Below w.heap.size w w' := by
  have RG := Lib.hid (fun w' (h : Below w.heap.size w w') => old5 hg h (Nat.le_refl _))
  have R0 := Lib.hid (fun w' (h : Below w.heap.size w w') => show w'.cell? ⟨g, 0, none⟩ = some (.slice A n c) from by simp [World.cell?, RG.out w' h])
  have R1 := Lib.hid (fun w' (h : Below w.heap.size w w') => show w'.cell? ⟨g, 1, none⟩ = some (.slice B m d) from by simp [World.cell?, RG.out w' h])
  have RA := Lib.hid (fun w' (h : Below w.heap.size w w') => hr.below h (Nat.le_refl _))
  have RB := Lib.hid (fun w' (h : Below w.heap.size w w') => hs.below h (Nat.le_refl _))
  have HN := Lib.hid hn
  have HM := Lib.hid hm
  have CG := Lib.hid (grow5_any (n + m) h0 (by omega) w)
  have c0 := R0.out w (Below.refl _ _)
  have c1 := R1.out w (Below.refl _ _)
  have hn0 : ¬ (n : Int) < 0 := by omega
  have hn1 : ¬ (n : Int) + (m : Int) < 0 := by omega
  have e1 : ((n + m : Nat) : Int) = (n : Int) + (m : Int) := by omega
  rw [e1] at CG
  clear hg hr hs hn hm e1
  go_enter Tryd.func40, Tryd.ntmps40
  go_wp2
  refine wp_loop_rounds 3 ?_
  rw [rounds_succ]
  go_wp2
  rw [rounds_succ]
  go_wp2
  rw [rounds_succ]
  go_wp2_with fail
  refine CG.out.mono ?_
  rintro e w1 ⟨⟨q, cap, rfl, ho⟩, hb⟩
  have HO := Lib.hid ho
  have HB := Lib.hid hb
  have k0 := R0.out _ hb
  clear ho hb c0 c1
  go_wp2_with fail
  refine wp_loop_rounds 3 ?_
  rw [rounds_succ]
  go_wp2_with (at_builtin; (refine wpList_appS w1 rfl (.tmp 31) (.tmp 32) rfl w.heap.size _ [] us rfl HO.out A n c w.heap.size rfl HN.out (by exact RA.out _ HB.out) (by rw [← HN.out]; simp only [List.length_nil]; omega) HB.out.size ?_); intro v2 w2 hown2 hgrow2; have HB2 := Lib.hid (Ow.below (w0 := w) HO.out HB.out hgrow2 HB.out.size); rw [List.nil_append] at hown2; have HO2 := Lib.hid hown2; obtain ⟨Au, cu, eu, hu1, hu2, hu3⟩ := hown2.form; rw [← HN.out] at eu; subst eu; have k1 := R1.out _ HB2.out; clear hown2 hgrow2 hu3 hu1)
  rw [rounds_succ]
  go_wp2_with (at_builtin; (refine wpList_appS w2 rfl (.tmp 31) (.tmp 32) rfl w.heap.size _ us vs rfl HO2.out B m d w.heap.size rfl HM.out (by exact RB.out _ HB2.out) (by rw [← HN.out, ← HM.out]; omega) HB2.out.size ?_); intro v3 w3 hown3 hgrow3; have HB3 := Lib.hid (Ow.below (w0 := w) HO2.out HB2.out hgrow3 HB2.out.size); obtain ⟨At, ct, et, ht1, ht2, ht3⟩ := hown3.form; rw [List.length_append, ← HN.out, ← HM.out] at et ht1; have HC3 := Lib.hid ht3; subst et; clear hown3 hgrow3 ht3)
  rw [rounds_succ]
  go_wp2_with fail
  go_ret
  exact ⟨⟨At, ct, rfl, ht1, ht2, HC3.out⟩, HB3.out⟩
end Go.Proofs.YtpfjecjfooefoaaDoor
