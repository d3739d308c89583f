
/- The document's answers (hub): Raise, Cut. -/
import Derived.Test.YtplekllhnpljiaaJ24
namespace Go.Proofs.Ytplekllhnpljiaa
open Go.RowKit

set_option maxRecDepth 100000 in
theorem retHb {fn : Func} {p q : Tmp} (h : fn.results = #[.cell p 29, .tmp q]) (tmps : Array Value) (W : World) (g : Nat) (x : Wh) (r : Hb) (v : Value) (hp : tmps.getD p undef = .pointer (some ⟨g, 0, none⟩)) (hq : tmps.getD q undef = v) (hg : BoxH W g x r) :
    (results fn tmps).run Try.prog W = .ok (.tuple #[.agg (hubC x r), v]) W := by
  have hp' : tmps[p]?.getD undef = .pointer (some ⟨g, 0, none⟩) := by simpa using hp
  have hq' : tmps[q]?.getD undef = v := by simpa using hq
  simp [results, h, hp', hq', asAddr, run_loadVar_row W g 29 29 (hubC x r) (0, 0) _ hg Try.underlying29 rfl (by rw [hubC_size]; kernel_rfl)]
set_option maxRecDepth 100000 in
theorem retHb3 {fn : Func} {p q s : Tmp} (h : fn.results = #[.cell p 29, .tmp q, .tmp s]) (tmps : Array Value) (W : World) (g : Nat) (x : Wh) (r : Hb) (v u : Value) (hp : tmps.getD p undef = .pointer (some ⟨g, 0, none⟩)) (hq : tmps.getD q undef = v) (hs : tmps.getD s undef = u) (hg : BoxH W g x r) :
    (results fn tmps).run Try.prog W = .ok (.tuple #[.agg (hubC x r), v, u]) W := by
  have hp' : tmps[p]?.getD undef = .pointer (some ⟨g, 0, none⟩) := by simpa using hp
  have hq' : tmps[q]?.getD undef = v := by simpa using hq
  have hs' : tmps[s]?.getD undef = u := by simpa using hs
  simp [results, h, hp', hq', hs', asAddr, run_loadVar_row W g 29 29 (hubC x r) (0, 0) _ hg Try.underlying29 rfl (by rw [hubC_size]; kernel_rfl)]
/-- an empty hub -/
def hb0 : Hb := ⟨fun _ => false, fun _ => fd0, fun _ => 0, 0⟩
def wh0 : Wh := fun _ => (none, 0)
set_option maxRecDepth 100000 in
theorem hubR0 (w : World) : HubR w wh0 hb0 := fun _ _ => ⟨Nat.le_refl _, (by decide : 0 ≤ 9223372036854775807), Rd.nil⟩
/-- what Raise, Cut answer -/
def raiseR (h : Hb) (c : Int) : Hb × Int := if 0 ≤ c ∧ c < 4 then (if h.up c.toNat = true then (h, 9) else (raiseH h c.toNat, 0)) else (h, 1)
def cutR (h : Hb) (c : Int) : Hb × Int := if 0 ≤ c ∧ c < 4 then (if h.up c.toNat = true then (cutH h c.toNat, 0) else (h, 9)) else (h, 1)
def AnsHb (W' : World) (e : Ending) (h : Hb) (n : Int) : Prop := ∃ x, e = .returned (.tuple #[.agg (hubC x h), .int .i64 n]) ∧ HubR W' x h
set_option maxRecDepth 100000 in
/-- a hub's box, and the box of the answer -/
theorem boxHZ (W : World) (x : Wh) (h : Hb) : ∃ V C, C = hubC x h ∧ V = (W.alloc (.cells C 29)).alloc (.cells #[.bool false, .bool false, .bool false, .bool false, .slice none 0 0, .int .i64 0, .int .i64 0, .slice none 0 0, .int .i64 0, .int .i64 0, .slice none 0 0, .int .i64 0, .int .i64 0, .slice none 0 0, .int .i64 0, .int .i64 0, .int .i64 0, .int .i64 0, .int .i64 0, .int .i64 0, .int .i64 0] 29) ∧ Below W.heap.size W V ∧ BoxH V W.heap.size x h ∧ BoxH V (W.heap.size + 1) wh0 hb0 := by
  obtain ⟨V, hV, hb, g1, g2⟩ := box2x W (hubC x h) (hubC wh0 hb0) 29 29
  exact ⟨V, _, rfl, hV, hb, g1, g2⟩
set_option maxRecDepth 100000 in
theorem HubR.set {w w' : World} {x : Wh} {h : Hb} (k : HubR w x h) (hk : ∀ A : Option Addr, ∀ l : List UInt8, Rd w w.heap.size A l → Rd w' w'.heap.size A l) : HubR w' x h := fun i hi => ⟨(k i hi).1, (k i hi).2.1, hk _ _ (k i hi).2.2⟩
set_option maxRecDepth 100000 in
theorem noBH (x : Wh) (h : Hb) : ∀ u ∈ (hubC x h).toList, NoB u = true := by
  intro u hu
  simp [hubC, slH] at hu
  rcases hu with rfl | rfl | rfl | rfl | rfl | rfl | rfl | rfl | rfl | rfl | rfl | rfl | rfl | rfl | rfl | rfl | rfl | rfl | rfl | rfl | rfl <;> rfl
/-- a world in which one hub's box alone is another -/
def OnlyH (w w' : World) (g : Nat) : Prop := (∀ k, k ≠ g → w'.heap[k]? = w.heap[k]?) ∧ w'.heap.size = w.heap.size ∧ w'.os = w.os ∧ w'.tape = w.tape ∧ w'.output = w.output
set_option maxRecDepth 100000 in
theorem OnlyH.refl (w : World) (g : Nat) : OnlyH w w g := ⟨fun _ _ => rfl, rfl, rfl, rfl, rfl⟩
set_option maxRecDepth 100000 in
theorem OnlyH.setCell {w w' : World} {g : Nat} (h : OnlyH w w' g) (j : Nat) (v : Value) : OnlyH w (w'.setCell ⟨g, j, none⟩ v) g := by
  have hb := (Below.refl g w').setCell (p := ⟨g, j, none⟩) (Nat.le_refl _) v
  exact ⟨fun k hk => (heap_setCell_other w' ⟨g, j, none⟩ k v hk).trans (h.1 k hk), by simp [World.setCell, h.2.1], hb.os.trans h.2.2.1, hb.tape.trans h.2.2.2.1, hb.output.trans h.2.2.2.2⟩
set_option maxRecDepth 100000 in
theorem OnlyH.setRow {w w' : World} {g : Nat} (h : OnlyH w w' g) (cs : Array Value) : OnlyH w (w'.setRow g cs) g := ⟨fun k hk => (setRow_other w' g k cs hk).trans (h.1 k hk), by simp [World.setRow, h.2.1], h.2.2.1, h.2.2.2.1, h.2.2.2.2⟩
set_option maxRecDepth 100000 in
theorem OnlyH.hubR {w w' : World} {g : Nat} {x y : Wh} {h r : Hb} (k : OnlyH w w' g) (hg : BoxH w g y r) (hr : HubR w x h) : HubR w' x h := hr.set fun _ _ hk => hk.keepN hg (noBH y r) k.1 (Nat.le_of_eq k.2.1.symm)
set_option maxRecDepth 100000 in
theorem OnlyH.box {w w' : World} {g g2 : Nat} {x : Wh} {h : Hb} (k : OnlyH w w' g) (hg : BoxH w g2 x h) (hne : g2 ≠ g) : BoxH w' g2 x h := (k.1 g2 hne).trans hg
set_option maxRecDepth 100000 in
theorem OnlyH.below {B : Nat} {a w w' : World} {g : Nat} (k : OnlyH w w' g) (h : Below B a w) (hg : B ≤ g) : Below B a w' := h.trans ⟨k.2.2.1, k.2.2.2.1, k.2.2.2.2, Nat.le_of_eq k.2.1.symm, fun j hj => k.1 j (by omega)⟩
set_option maxRecDepth 100000 in
theorem BoxH.setFd {w : World} {g : Nat} {x : Wh} {h : Hb} (k : BoxH w g x h) {c : Nat} (hc : c < 4) (A : Option Addr) (n : Nat) (f : Fd) :
    BoxH (((w.setCell ⟨g, 4 + c * 3, none⟩ (.slice A f.buf.length n)).setCell ⟨g, 4 + c * 3 + 1, none⟩ (.int .i64 f.skip)).setCell ⟨g, 4 + c * 3 + 2, none⟩ (.int .i64 f.bad)) g (upd x c (A, n)) { h with fd := upd h.fd c f } := by
  have h1 := heap_setCell_same w g (4 + c * 3) _ _ (.slice A f.buf.length n) k
  have h2 := heap_setCell_same _ g (4 + c * 3 + 1) _ _ (.int .i64 f.skip) h1
  have h3 := heap_setCell_same _ g (4 + c * 3 + 2) _ _ (.int .i64 f.bad) h2
  rw [hubC_setFd x h hc A n f] at h3
  exact h3
set_option maxRecDepth 100000 in
/-- the answer's box, a hub laid down in it: what is asked at the return -/
theorem hub_end {W w : World} {x y : Wh} {h r : Hb} {n : Int} {C : Array Value} (hC : C = hubC x h) (hb : Below W.heap.size W w) (hg : BoxH w (W.heap.size + 1) y r) (hr : HubR w x h) :
    AnsHb (w.setRow (W.heap.size + 1) C) (.returned (.tuple #[.agg C, .int .i64 n])) h n ∧ Below W.heap.size W (w.setRow (W.heap.size + 1) C) := by
  subst hC
  refine ⟨⟨x, rfl, ((OnlyH.refl w _).setRow _).hubR hg hr⟩, ?_⟩
  exact hb.trans ⟨rfl, rfl, rfl, by simp [World.setRow], fun k hk => setRow_other w _ k _ (by have := hb.size; omega)⟩
set_option maxRecDepth 100000 in
set_option maxHeartbeats 4000000 in
theorem refCut_any (x : Wh) (h : Hb) (c : Int) (W : World) (hr : HubR W x h) : Calls Try.prog 21 #[.agg (hubC x h), .int .i64 c] W fun e W' => AnsHb W' e (cutR h c).1 (cutR h c).2 ∧ Below W.heap.size W W' := by
  obtain ⟨V, C, hC, hV, hb, hg, hg2⟩ := boxHZ W x h
  have HB := Lib.hid hb
  have HV := Lib.hid hV
  have HG := Lib.hid hg
  have HJ := Lib.hid hg2
  have HR := Lib.hid (hr.go hb)
  have HC := Lib.hid hC
  have HG2 := Lib.hid (show V.heap[W.heap.size]? = some (.cells C 29 (0, 0)) from by rw [hC]; exact hg)
  rw [← hC]
  obtain ⟨E, hE⟩ : ∃ E, E = cutR h c := ⟨_, rfl⟩
  rw [← hE]
  have HDE := Lib.hid hE
  clear hg hg2 hb hC hV hr hE
  by_cases hc : 0 ≤ c ∧ c < 4
  case neg =>
    have hE1 : E = (h, 1) := by rw [HDE.out]; unfold cutR; rw [if_neg hc]
    have HE := Lib.hid (show E.1 = h ∧ E.2 = 1 by rw [hE1]; exact ⟨rfl, rfl⟩)
    clear hE1 HDE
    by_cases h0 : c < 0
    · clear hc
      go_enter Try.func21, Try.ntmps21
      go_upto_region 1 with (fail)
      rw [← HV.out]
      go_wp2_with (first | (refine loadHb _ (.tmp 2) W.heap.size x h HG.out rfl rfl rfl ?_) | (refine storeHb _ (.tmp 4) (.tmp 12) (W.heap.size + 1) x h _ HJ.out rfl rfl rfl rfl rfl ?_))
      (try simp only [Exit.inBlock, Exit.then])
      refine bodyPost_ret (retHb rfl _ _ (W.heap.size + 1) x h _ rfl rfl (setRow_heap _ _ _ _ _ _ HJ.out)) rfl ?_
      rw [HE.out.1, HE.out.2]
      exact hub_end rfl HB.out HJ.out HR.out
    · have i1 : (3 : Int) < c := by omega
      clear hc
      go_enter Try.func21, Try.ntmps21
      go_upto_region 1 with (fail)
      rw [← HV.out]
      go_wp2_with (first | (refine loadHb _ (.tmp 2) W.heap.size x h HG.out rfl rfl rfl ?_) | (refine storeHb _ (.tmp 4) (.tmp 12) (W.heap.size + 1) x h _ HJ.out rfl rfl rfl rfl rfl ?_))
      (try simp only [Exit.inBlock, Exit.then])
      refine bodyPost_ret (retHb rfl _ _ (W.heap.size + 1) x h _ rfl rfl (setRow_heap _ _ _ _ _ _ HJ.out)) rfl ?_
      rw [HE.out.1, HE.out.2]
      exact hub_end rfl HB.out HJ.out HR.out
  obtain ⟨k, rfl⟩ := Int.eq_ofNat_of_zero_le hc.1
  have hlt : k < 4 := by omega
  have i1 : ¬ (k : Int) < 0 := by omega
  have i2 : ¬ (3 : Int) < (k : Int) := by omega
  have i3 : (k : Int) < 4 := by omega
  have i0 : (0 : Int) ≤ (k : Int) := by omega
  have hE1 : E = (if h.up k = true then (cutH h k, 0) else (h, 9)) := by rw [HDE.out]; unfold cutR; rw [if_pos hc]; rfl
  have HE := Lib.hid hE1
  have HU := Lib.hid (hubC_up x h hlt)
  clear hE1 HDE hc
  obtain ⟨u, hu⟩ : ∃ u, u = h.up k := ⟨_, rfl⟩
  rw [← hu] at HE HU
  clear hu
  go_enter Try.func21, Try.ntmps21
  go_upto_region 1 with (fail)
  rw [← HV.out]
  have z0 := HG.out.cell HU.out
  cases u with
  | false =>
    have HE2 := Lib.hid (show E.1 = h ∧ E.2 = 9 by rw [HE.out]; exact ⟨rfl, rfl⟩)
    clear HE
    go_wp2_with (first | (refine loadHb _ (.tmp 2) W.heap.size x h HG.out rfl rfl rfl ?_) | (refine storeHb _ (.tmp 4) (.tmp 18) (W.heap.size + 1) x h _ HJ.out rfl rfl rfl rfl rfl ?_))
    (try simp only [Exit.inBlock, Exit.then])
    refine bodyPost_ret (retHb rfl _ _ (W.heap.size + 1) x h _ rfl rfl (setRow_heap _ _ _ _ _ _ HJ.out)) rfl ?_
    rw [HE2.out.1, HE2.out.2]
    exact hub_end rfl HB.out HJ.out HR.out
  | true =>
    have HE2 := Lib.hid (show E.1 = cutH h k ∧ E.2 = 0 by rw [HE.out]; exact ⟨rfl, rfl⟩)
    clear HE
    have f0 := HG.out.thaw k
    go_upto_region 6 with (fail)
    obtain ⟨Y1, hY1⟩ : ∃ Y, Y = V.setCell ⟨W.heap.size, k, none⟩ (.bool false) := ⟨_, rfl⟩
    have hG1 : BoxH Y1 W.heap.size x { h with up := upd h.up k false } := by rw [hY1]; exact HG.out.set (hubC_setUp x h hlt false)
    have hO1 : OnlyH V Y1 W.heap.size := by rw [hY1]; exact (OnlyH.refl V _).setCell k _
    rw [← hY1]
    clear hY1 z0 f0
    have f0 := hG1.thaw (4 + k * 3)
    have f1 := hG1.thaw (4 + k * 3 + 1)
    have f2 := hG1.thaw (4 + k * 3 + 2)
    have x0 := hG1.cell (hubC_buf _ _ hlt)
    have x1 := hG1.cell (hubC_skip _ _ hlt)
    have x2 := hG1.cell (hubC_bad _ _ hlt)
    unfold slH at x0
    have HG1 := Lib.hid hG1
    have HO1 := Lib.hid hO1
    clear hG1 hO1
    go_upto_region 7 with (fail)
    obtain ⟨Y2, hY2⟩ : ∃ Y, Y = ((Y1.setCell ⟨W.heap.size, 4 + k * 3, none⟩ (.slice none 0 0)).setCell ⟨W.heap.size, 4 + k * 3 + 1, none⟩ (.int .i64 0)).setCell ⟨W.heap.size, 4 + k * 3 + 2, none⟩ (.int .i64 0) := ⟨_, rfl⟩
    have hG2 : BoxH Y2 W.heap.size (upd x k (none, 0)) { h with up := upd h.up k false, fd := upd h.fd k fd0 } := by rw [hY2]; exact HG1.out.setFd hlt none 0 fd0
    have hO2 : OnlyH V Y2 W.heap.size := by rw [hY2]; exact ((HO1.out.setCell _ _).setCell _ _).setCell _ _
    rw [← hY2]
    clear hY2 f0 f1 f2 x0 x1 x2
    have HGE := Lib.hid hG2
    have HOE := Lib.hid hO2
    have HJE := Lib.hid (hO2.box HJ.out (by omega))
    have HRE := Lib.hid ((hO2.hubR HG.out HR.out).upd (h' := cutH h k) k (f := fd0) (A := none) (n := 0) (Nat.le_refl _) (by decide) Rd.nil rfl)
    have HBE := Lib.hid (show Below W.heap.size W Y2 from hO2.below HB.out (Nat.le_refl _))
    clear hG2 hO2
    go_wp2_with (first | (refine loadHb _ (.tmp 2) W.heap.size _ _ HGE.out rfl rfl rfl ?_) | (refine storeHb _ (.tmp 4) (.tmp 26) (W.heap.size + 1) _ _ _ HJE.out rfl rfl rfl rfl rfl ?_))
    (try simp only [Exit.inBlock, Exit.then])
    refine bodyPost_ret (retHb rfl _ _ (W.heap.size + 1) (upd x k (none, 0)) (cutH h k) _ rfl rfl (setRow_heap _ _ _ _ _ _ HJE.out)) rfl ?_
    rw [HE2.out.1, HE2.out.2]
    exact hub_end rfl HBE.out HJE.out HRE.out
set_option maxRecDepth 100000 in
set_option maxHeartbeats 4000000 in
theorem refRaise_any (x : Wh) (h : Hb) (c : Int) (W : World) (hr : HubR W x h) (hl : Hb64 h) : Calls Try.prog 19 #[.agg (hubC x h), .int .i64 c] W fun e W' => AnsHb W' e (raiseR h c).1 (raiseR h c).2 ∧ Below W.heap.size W W' := by
  obtain ⟨V, C, hC, hV, hb, hg, hg2⟩ := boxHZ W x h
  have HB := Lib.hid hb
  have HV := Lib.hid hV
  have HG := Lib.hid hg
  have HJ := Lib.hid hg2
  have HR := Lib.hid (hr.go hb)
  have HL := Lib.hid hl
  have HC := Lib.hid hC
  have HG2 := Lib.hid (show V.heap[W.heap.size]? = some (.cells C 29 (0, 0)) from by rw [hC]; exact hg)
  rw [← hC]
  obtain ⟨E, hE⟩ : ∃ E, E = raiseR h c := ⟨_, rfl⟩
  rw [← hE]
  have HDE := Lib.hid hE
  clear hg hg2 hb hC hV hr hE hl
  by_cases hc : 0 ≤ c ∧ c < 4
  case neg =>
    have hE1 : E = (h, 1) := by rw [HDE.out]; unfold raiseR; rw [if_neg hc]
    have HE := Lib.hid (show E.1 = h ∧ E.2 = 1 by rw [hE1]; exact ⟨rfl, rfl⟩)
    clear hE1 HDE
    by_cases h0 : c < 0
    · clear hc
      go_enter Try.func19, Try.ntmps19
      go_upto_region 1 with (fail)
      rw [← HV.out]
      go_wp2_with (first | (refine loadHb _ (.tmp 2) W.heap.size x h HG.out rfl rfl rfl ?_) | (refine storeHb _ (.tmp 4) (.tmp 12) (W.heap.size + 1) x h _ HJ.out rfl rfl rfl rfl rfl ?_))
      (try simp only [Exit.inBlock, Exit.then])
      refine bodyPost_ret (retHb rfl _ _ (W.heap.size + 1) x h _ rfl rfl (setRow_heap _ _ _ _ _ _ HJ.out)) rfl ?_
      rw [HE.out.1, HE.out.2]
      exact hub_end rfl HB.out HJ.out HR.out
    · have i1 : (3 : Int) < c := by omega
      clear hc
      go_enter Try.func19, Try.ntmps19
      go_upto_region 1 with (fail)
      rw [← HV.out]
      go_wp2_with (first | (refine loadHb _ (.tmp 2) W.heap.size x h HG.out rfl rfl rfl ?_) | (refine storeHb _ (.tmp 4) (.tmp 12) (W.heap.size + 1) x h _ HJ.out rfl rfl rfl rfl rfl ?_))
      (try simp only [Exit.inBlock, Exit.then])
      refine bodyPost_ret (retHb rfl _ _ (W.heap.size + 1) x h _ rfl rfl (setRow_heap _ _ _ _ _ _ HJ.out)) rfl ?_
      rw [HE.out.1, HE.out.2]
      exact hub_end rfl HB.out HJ.out HR.out
  obtain ⟨k, rfl⟩ := Int.eq_ofNat_of_zero_le hc.1
  have hlt : k < 4 := by omega
  have i1 : ¬ (k : Int) < 0 := by omega
  have i2 : ¬ (3 : Int) < (k : Int) := by omega
  have i3 : (k : Int) < 4 := by omega
  have i0 : (0 : Int) ≤ (k : Int) := by omega
  have hE1 : E = (if h.up k = true then (h, 9) else (raiseH h k, 0)) := by rw [HDE.out]; unfold raiseR; rw [if_pos hc]; rfl
  have HE := Lib.hid hE1
  have HU := Lib.hid (hubC_up x h hlt)
  clear hE1 HDE hc
  obtain ⟨u, hu⟩ : ∃ u, u = h.up k := ⟨_, rfl⟩
  rw [← hu] at HE HU
  clear hu
  go_enter Try.func19, Try.ntmps19
  go_upto_region 1 with (fail)
  rw [← HV.out]
  have z0 := HG.out.cell HU.out
  cases u with
  | true =>
    have HE2 := Lib.hid (show E.1 = h ∧ E.2 = 9 by rw [HE.out]; exact ⟨rfl, rfl⟩)
    clear HE
    go_wp2_with (first | (refine loadHb _ (.tmp 2) W.heap.size x h HG.out rfl rfl rfl ?_) | (refine storeHb _ (.tmp 4) (.tmp 17) (W.heap.size + 1) x h _ HJ.out rfl rfl rfl rfl rfl ?_))
    (try simp only [Exit.inBlock, Exit.then])
    refine bodyPost_ret (retHb rfl _ _ (W.heap.size + 1) x h _ rfl rfl (setRow_heap _ _ _ _ _ _ HJ.out)) rfl ?_
    rw [HE2.out.1, HE2.out.2]
    exact hub_end rfl HB.out HJ.out HR.out
  | false =>
    have HE2 := Lib.hid (show E.1 = raiseH h k ∧ E.2 = 0 by rw [HE.out]; exact ⟨rfl, rfl⟩)
    clear HE
    have f0 := HG.out.thaw k
    go_upto_region 6 with (fail)
    obtain ⟨Y1, hY1⟩ : ∃ Y, Y = V.setCell ⟨W.heap.size, k, none⟩ (.bool true) := ⟨_, rfl⟩
    have hG1 : BoxH Y1 W.heap.size x { h with up := upd h.up k true } := by rw [hY1]; exact HG.out.set (hubC_setUp x h hlt true)
    have hO1 : OnlyH V Y1 W.heap.size := by rw [hY1]; exact (OnlyH.refl V _).setCell k _
    rw [← hY1]
    clear hY1 z0 f0
    have f0 := hG1.thaw (4 + k * 3)
    have f1 := hG1.thaw (4 + k * 3 + 1)
    have f2 := hG1.thaw (4 + k * 3 + 2)
    have x0 := hG1.cell (hubC_buf _ _ hlt)
    have x1 := hG1.cell (hubC_skip _ _ hlt)
    have x2 := hG1.cell (hubC_bad _ _ hlt)
    unfold slH at x0
    have HG1 := Lib.hid hG1
    have HO1 := Lib.hid hO1
    clear hG1 hO1
    go_upto_region 7 with (fail)
    obtain ⟨Y2, hY2⟩ : ∃ Y, Y = ((Y1.setCell ⟨W.heap.size, 4 + k * 3, none⟩ (.slice none 0 0)).setCell ⟨W.heap.size, 4 + k * 3 + 1, none⟩ (.int .i64 0)).setCell ⟨W.heap.size, 4 + k * 3 + 2, none⟩ (.int .i64 0) := ⟨_, rfl⟩
    have hG2 : BoxH Y2 W.heap.size (upd x k (none, 0)) { h with up := upd h.up k true, fd := upd h.fd k fd0 } := by rw [hY2]; exact HG1.out.setFd hlt none 0 fd0
    have hO2 : OnlyH V Y2 W.heap.size := by rw [hY2]; exact ((HO1.out.setCell _ _).setCell _ _).setCell _ _
    rw [← hY2]
    clear hY2 f0 f1 f2 x0 x1 x2
    have z0 := hG2.cell (hubC_life _ _ hlt)
    have f0 := hG2.thaw (16 + k)
    have HG2 := Lib.hid hG2
    have HO2 := Lib.hid hO2
    clear hG2 hO2
    have HLF := Lib.hid (HL.out.1 k hlt).2.2
    obtain ⟨lf, hlf⟩ : ∃ l, l = h.life k := ⟨_, rfl⟩
    have z1 : Y2.cell? ⟨W.heap.size, 16 + k, none⟩ = some (.int .i64 lf) := by rw [hlf]; exact z0
    have HLE := Lib.hid hlf
    clear z0 hlf
    go_upto_region 8 with (fail)
    obtain ⟨Y3, hY3⟩ : ∃ Y, Y = Y2.setCell ⟨W.heap.size, 16 + k, none⟩ (.int .i64 (wrap64 (lf + 1))) := ⟨_, rfl⟩
    rw [← hY3]
    have hG3 : BoxH Y3 W.heap.size (upd x k (none, 0)) (raiseH h k) := by
      rw [hY3, HLE.out]
      exact HG2.out.set (hubC_setLife _ _ hlt _)
    have hO3 : OnlyH V Y3 W.heap.size := by rw [hY3]; exact HO2.out.setCell _ _
    clear hY3 z1 f0 HLE
    have hG2 := hG3
    have hO2 := hO3
    clear hG3 hO3 HG2 HO2
    have HGE := Lib.hid hG2
    have HOE := Lib.hid hO2
    have HJE := Lib.hid (hO2.box HJ.out (by omega))
    have HRE := Lib.hid ((hO2.hubR HG.out HR.out).upd (h' := raiseH h k) k (f := fd0) (A := none) (n := 0) (Nat.le_refl _) (by decide) Rd.nil rfl)
    have HBE := Lib.hid (show Below W.heap.size W Y3 from hO2.below HB.out (Nat.le_refl _))
    clear hG2 hO2
    go_wp2_with (first | (refine loadHb _ (.tmp 2) W.heap.size _ _ HGE.out rfl rfl rfl ?_) | (refine storeHb _ (.tmp 4) (.tmp 33) (W.heap.size + 1) _ _ _ HJE.out rfl rfl rfl rfl rfl ?_))
    (try simp only [Exit.inBlock, Exit.then])
    refine bodyPost_ret (retHb rfl _ _ (W.heap.size + 1) (upd x k (none, 0)) (raiseH h k) _ rfl rfl (setRow_heap _ _ _ _ _ _ HJE.out)) rfl ?_
    rw [HE2.out.1, HE2.out.2]
    exact hub_end rfl HBE.out HJE.out HRE.out
end Go.Proofs.Ytplekllhnpljiaa
/- The document's answers (hub): Pick, Push. -/

namespace Go.Proofs.Ytplekllhnpljiaa
open Go.RowKit

/-- the first from n on that is up, in f steps -/
def pkF (u : Nat → Bool) : Nat → Nat → Nat
  | 0, n => n
  | f + 1, n => if u n = true then n else pkF u f ((n + 1) % 4)
def pkC (h : Hb) : Nat := pkF h.up 4 h.next.toNat
def pickR (h : Hb) : Hb × Int × Int := if anyH h = true then ({ h with next := (((pkC h + 1) % 4 : Nat) : Int) }, ((pkC h : Nat) : Int), 0) else (h, 0, 11)
set_option maxRecDepth 100000 in
theorem any_some {h : Hb} (k : anyH h = true) {n : Nat} (hn : n < 4) : ∃ i, i < 4 ∧ h.up ((n + i) % 4) = true := by
  have h4 : ∀ j, j < 4 → h.up j = true → ∃ i, i < 4 ∧ h.up ((n + i) % 4) = true := fun j hj hu => ⟨(j + 4 - n) % 4, Nat.mod_lt _ (by decide), by
    have e : (n + (j + 4 - n) % 4) % 4 = j := by omega
    rw [e]; exact hu⟩
  unfold anyH at k
  simp only [Bool.or_eq_true] at k
  rcases k with ((k | k) | k) | k
  · exact h4 0 (by decide) k
  · exact h4 1 (by decide) k
  · exact h4 2 (by decide) k
  · exact h4 3 (by decide) k
set_option maxRecDepth 100000 in
theorem pkF_up (u : Nat → Bool) : ∀ (f n : Nat), n < 4 → (∃ i, i < f ∧ u ((n + i) % 4) = true) → pkF u f n < 4 ∧ u (pkF u f n) = true
  | 0, n, _, h => by obtain ⟨i, hi, _⟩ := h; omega
  | f + 1, n, hn, h => by
    unfold pkF
    by_cases hu : u n = true
    · rw [if_pos hu]; exact ⟨hn, hu⟩
    · rw [if_neg hu]
      obtain ⟨i, hi, hi2⟩ := h
      refine pkF_up u f _ (Nat.mod_lt _ (by decide)) ⟨i - 1, ?_, ?_⟩
      · by_cases h0 : i = 0
        · subst h0; rw [Nat.add_zero, Nat.mod_eq_of_lt hn] at hi2; exact absurd hi2 hu
        · omega
      · by_cases h0 : i = 0
        · subst h0; rw [Nat.add_zero, Nat.mod_eq_of_lt hn] at hi2; exact absurd hi2 hu
        · rw [show ((n + 1) % 4 + (i - 1)) % 4 = (n + i) % 4 by omega]; exact hi2
set_option maxRecDepth 100000 in
theorem pkC_up {h : Hb} (k : anyH h = true) (hn : 0 ≤ h.next ∧ h.next < 4) : pkC h < 4 ∧ h.up (pkC h) = true := pkF_up h.up 4 h.next.toNat (by omega) (any_some k (by omega))
def AnsPk (W' : World) (e : Ending) (r : Hb × Int × Int) : Prop := ∃ x, e = .returned (.tuple #[.agg (hubC x r.1), .int .i64 r.2.1, .int .i64 r.2.2]) ∧ HubR W' x r.1
set_option maxRecDepth 100000 in
theorem hub_end3 {W w : World} {x y : Wh} {h r : Hb} {n m : Int} {C : Array Value} (hC : C = hubC x h) (hb : Below W.heap.size W w) (hg : BoxH w (W.heap.size + 1) y r) (hr : HubR w x h) :
    AnsPk (w.setRow (W.heap.size + 1) C) (.returned (.tuple #[.agg C, .int .i64 n, .int .i64 m])) (h, n, m) ∧ Below W.heap.size W (w.setRow (W.heap.size + 1) C) := by
  subst hC
  exact ⟨⟨x, rfl, ((OnlyH.refl w _).setRow _).hubR hg hr⟩, ((OnlyH.refl w _).setRow _).below hb (by omega)⟩
set_option maxRecDepth 100000 in
set_option maxHeartbeats 4000000 in
theorem refPick_any (x : Wh) (h : Hb) (W : World) (hr : HubR W x h) (hn : 0 ≤ h.next ∧ h.next < 4) : Calls Try.prog 15 #[.agg (hubC x h)] W fun e W' => AnsPk W' e (pickR h) ∧ Below W.heap.size W W' := by
  obtain ⟨V, C, hC, hV, hb, hg, hg2⟩ := boxHZ W x h
  have HB := Lib.hid hb
  have HV := Lib.hid hV
  have HG := Lib.hid hg
  have HJ := Lib.hid hg2
  have HR := Lib.hid (hr.go hb)
  have CA := Lib.hid (refAny_any x h V)
  have HNX := Lib.hid hn
  rw [← hC]
  obtain ⟨E, hE⟩ : ∃ E, E = pickR h := ⟨_, rfl⟩
  rw [← hE]
  have HDE := Lib.hid hE
  clear hg hg2 hb hC hV hr hE hn
  obtain ⟨u, hu⟩ : ∃ u, u = anyH h := ⟨_, rfl⟩
  rw [← hu] at CA
  have HAN := Lib.hid hu
  clear hu
  go_enter Try.func15, Try.ntmps15
  go_upto_region 1 with (fail)
  rw [← HV.out]
  go_wp2_with (refine loadHb _ (.tmp 1) W.heap.size x h HG.out rfl rfl rfl ?_)
  refine CA.out.mono ?_
  rintro e w1 ⟨rfl, hb1⟩
  have HB1 := Lib.hid (belG HB.out hb1 HB.out.size)
  have HG1 := Lib.hid (HG.out.old hb1 (Nat.le_refl _))
  have HJ1 := Lib.hid (HJ.out.old hb1 (Nat.le_refl _))
  have HR1 := Lib.hid (HR.out.go hb1)
  clear hb1 HB HG HJ HR CA HV
  cases u with
  | false =>
    have HE := Lib.hid (show E = (h, 0, 11) by rw [HDE.out]; unfold pickR; rw [if_neg (by rw [← HAN.out]; decide)])
    go_wp2_with (first | (refine loadHb _ (.tmp 1) W.heap.size x h HG1.out rfl rfl rfl ?_) | (refine storeHb _ (.tmp 2) (.tmp 11) (W.heap.size + 1) x h _ HJ1.out rfl rfl rfl rfl rfl ?_))
    (try simp only [Exit.inBlock, Exit.then])
    refine bodyPost_ret (retHb3 rfl _ _ (W.heap.size + 1) x h _ _ rfl rfl rfl (setRow_heap _ _ _ _ _ _ HJ1.out)) rfl ?_
    rw [HE.out]
    exact hub_end3 rfl HB1.out HJ1.out HR1.out
  | true =>
    have HE := Lib.hid (show E = ({ h with next := (((pkC h + 1) % 4 : Nat) : Int) }, ((pkC h : Nat) : Int), 0) by rw [HDE.out]; unfold pickR; rw [if_pos HAN.out.symm])
    obtain ⟨n, hn⟩ : ∃ n : Nat, h.next = (n : Int) := ⟨h.next.toNat, by have := HNX.out; omega⟩
    have hn4 : n < 4 := by have := HNX.out; omega
    have x0 := HG1.out.cell (hubC_next x h)
    rw [hn] at x0
    have HSM := Lib.hid (any_some HAN.out.symm hn4)
    have HPK := Lib.hid (show pkF h.up 4 n = pkC h by unfold pkC; rw [hn]; rfl)
    have HP4 := Lib.hid (pkC_up HAN.out.symm HNX.out)
    clear hn HNX
    go_wp2
    obtain ⟨R, hR⟩ : ∃ R, R = pkC h := ⟨_, rfl⟩
    rw [← hR] at HE HPK HP4
    clear hR
    go_loopw [6] (fun i wr => ∃ k f : Nat, k < 4 ∧ i = .int .i64 k ∧ f ≤ 4 ∧ Hid (pkF h.up f k = R) ∧ Hid (∃ i, i < f ∧ h.up ((k + i) % 4) = true) ∧ wr = w1) (fun i _ => (R + 4 - (intOf i).toNat) % 4)
    case atStart => exact ⟨n, 4, hn4, rfl, Nat.le_refl _, HPK, HSM, rfl⟩
    case round =>
      clear HPK HSM
      obtain ⟨k, f, hk, rfl, hf, HF, HX, rfl⟩ := hrel
      have hk0 : (0 : Int) ≤ (k : Int) := by omega
      have hk4 : (k : Int) < 4 := by omega
      have hm : ((k : Int) + 1).tmod 4 = (((k + 1) % 4 : Nat) : Int) := by rw [Int.tmod_eq_emod_of_nonneg (by omega)]; omega
      have hm2 : ((k : Int) + 1) % 4 = (((k + 1) % 4 : Nat) : Int) := by omega
      have z0 := HG1.out.cell (hubC_up x h hk)
      obtain ⟨u, hu⟩ : ∃ u, u = h.up k := ⟨_, rfl⟩
      rw [← hu] at z0
      have HU := Lib.hid hu
      clear hu x0
      cases u with
      | true =>
        have hkR : k = R := by
          obtain ⟨i, hi, -⟩ := HX.out
          obtain ⟨f', rfl⟩ : ∃ f', f = f' + 1 := ⟨f - 1, by omega⟩
          have h1 := HF.out
          unfold pkF at h1
          rw [if_pos HU.out.symm] at h1
          exact h1
        have HE2 := Lib.hid (show E = ({ h with next := (((k + 1) % 4 : Nat) : Int) }, ((k : Nat) : Int), 0) by rw [HE.out, hkR])
        clear hkR
        have f0 := HG1.out.thaw 20
        have x0 := HG1.out.cell (hubC_next x h)
        obtain ⟨q, hq⟩ : ∃ q : Nat, q = (k + 1) % 4 := ⟨_, rfl⟩
        rw [← hq] at hm hm2 HE2
        clear hq
        go_upto_region 8 with (fail)
        obtain ⟨Y1, hY1⟩ : ∃ Y, Y = wr.setCell ⟨W.heap.size, 20, none⟩ (.int .i64 (q : Nat)) := ⟨_, rfl⟩
        have hG1 : BoxH Y1 W.heap.size x { h with next := ((q : Nat) : Int) } := by rw [hY1]; exact HG1.out.set (hubC_setNext x h _)
        have hO1 : OnlyH wr Y1 W.heap.size := by rw [hY1]; exact (OnlyH.refl wr _).setCell 20 _
        rw [← hY1]
        clear hY1 z0 f0 x0
        have HGE := Lib.hid hG1
        have HJE := Lib.hid (hO1.box HJ1.out (by omega))
        have HRE := Lib.hid ((hO1.hubR HG1.out HR1.out).of (h' := { h with next := ((q : Nat) : Int) }) rfl)
        have HBE := Lib.hid (hO1.below HB1.out (Nat.le_refl _))
        clear hG1 hO1
        go_wp2_with (first | (refine loadHb _ (.tmp 1) W.heap.size _ _ HGE.out rfl rfl rfl ?_) | (refine storeHb _ (.tmp 2) (.tmp 26) (W.heap.size + 1) _ _ _ HJE.out rfl rfl rfl rfl rfl ?_))
        (try simp only [Exit.inBlock, Exit.then])
        refine bodyPost_ret (retHb3 rfl _ _ (W.heap.size + 1) x { h with next := ((q : Nat) : Int) } _ _ rfl rfl rfl (setRow_heap _ _ _ _ _ _ HJE.out)) rfl ?_
        rw [HE2.out]
        exact hub_end3 rfl HBE.out HJE.out HRE.out
      | false =>
        have hkR : k ≠ R := fun e => by have h1 := HP4.out.2; rw [← e, ← HU.out] at h1; exact Bool.noConfusion h1
        have HX2 := Lib.hid (show ∃ f', f = f' + 1 ∧ pkF h.up f' ((k + 1) % 4) = R ∧ ∃ i, i < f' ∧ h.up (((k + 1) % 4 + i) % 4) = true from by
          obtain ⟨i, hi, hi2⟩ := HX.out
          obtain ⟨f', rfl⟩ : ∃ f', f = f' + 1 := ⟨f - 1, by omega⟩
          have h1 := HF.out
          unfold pkF at h1
          rw [if_neg (by rw [← HU.out]; decide)] at h1
          refine ⟨f', rfl, h1, i - 1, ?_, ?_⟩
          · by_cases h0 : i = 0
            · subst h0; rw [Nat.add_zero, Nat.mod_eq_of_lt hk, ← HU.out] at hi2; exact Bool.noConfusion hi2
            · omega
          · by_cases h0 : i = 0
            · subst h0; rw [Nat.add_zero, Nat.mod_eq_of_lt hk, ← HU.out] at hi2; exact Bool.noConfusion hi2
            · rw [show ((k + 1) % 4 + (i - 1)) % 4 = (k + i) % 4 by omega]; exact hi2)
        obtain ⟨f', hf', hp', hx'⟩ := HX2.out
        have HPP := Lib.hid hp'
        have HXX := Lib.hid hx'
        have HR4 := HP4.out.1
        have hq4 : (k + 1) % 4 < 4 := Nat.mod_lt _ (by decide)
        have HMS := Lib.hid (show (R + 4 - (k + 1) % 4) % 4 < (R + 4 - k) % 4 by omega)
        clear HF HX HX2 HU hp' hx' HP4 hkR HR4
        obtain ⟨q, hq⟩ : ∃ q : Nat, q = (k + 1) % 4 := ⟨_, rfl⟩
        rw [← hq] at hm hm2 hq4 HPP HXX HMS
        clear hq
        go_wp2
        go_roundw
        case rel => exact ⟨q, f', hq4, rfl, by omega, HPP, HXX, trivial⟩
        case measure => simp [intOf]; exact HMS.out
end Go.Proofs.Ytplekllhnpljiaa
