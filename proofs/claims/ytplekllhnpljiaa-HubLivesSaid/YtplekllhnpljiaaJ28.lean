
/- Package hub: Pick. -/
import Derived.Test.YtplekllhnpljiaaJ26
import Derived.Test.YtplekllhnpljiaaJ27
namespace Go.Proofs.Ytplekllhnpljiaa
open Go.RowKit

set_option maxRecDepth 100000 in
theorem pkF_skip (u : Nat → Bool) : ∀ (k f n : Nat), n < 4 → k ≤ f → (∀ j, j < k → u ((n + j) % 4) = false) → pkF u f n = pkF u (f - k) ((n + k) % 4)
  | 0, f, n, hn, _, _ => by rw [Nat.add_zero, Nat.mod_eq_of_lt hn, Nat.sub_zero]
  | k + 1, 0, _, _, h, _ => by omega
  | k + 1, f + 1, n, hn, h, hk => by
    have h0 := hk 0 (by omega)
    rw [Nat.add_zero, Nat.mod_eq_of_lt hn] at h0
    show (if u n = true then n else pkF u f ((n + 1) % 4)) = _
    rw [if_neg (by rw [h0]; decide), pkF_skip u k f ((n + 1) % 4) (Nat.mod_lt _ (by decide)) (by omega) (fun j hj => by
      have := hk (j + 1) (by omega)
      rw [show ((n + 1) % 4 + j) % 4 = (n + (j + 1)) % 4 by omega]; exact this)]
    rw [show ((n + 1) % 4 + k) % 4 = (n + (k + 1)) % 4 by omega, show f + 1 - (k + 1) = f - k by omega]
set_option maxRecDepth 100000 in
theorem pick_hit {h : Hb} {n k : Nat} (hn : h.next = (n : Int)) (hn4 : n < 4) (hk : k < 4) (h0 : ∀ j, j < k → h.up ((n + j) % 4) = false) (h1 : h.up ((n + k) % 4) = true) :
    pickR h = ({ h with next := ((((n + k) % 4 + 1) % 4 : Nat) : Int) }, (((n + k) % 4 : Nat) : Int), 0) := by
  have ha : anyH h = true := by
    have h4 : (n + k) % 4 < 4 := Nat.mod_lt _ (by decide)
    generalize (n + k) % 4 = q at *
    unfold anyH
    rcases lt4 h4 with rfl | rfl | rfl | rfl <;> simp [h1]
  have hc : pkC h = (n + k) % 4 := by
    unfold pkC
    rw [hn, Int.toNat_natCast, pkF_skip h.up k 4 n hn4 (by omega) h0]
    obtain ⟨f, hf⟩ : ∃ f, 4 - k = f + 1 := ⟨3 - k, by omega⟩
    rw [hf]
    show (if h.up ((n + k) % 4) = true then _ else _) = _
    rw [if_pos h1]
  unfold pickR
  rw [if_pos ha, hc]
set_option maxRecDepth 100000 in
theorem pick_none {h : Hb} {n : Nat} (hn4 : n < 4) (h0 : ∀ j, j < 4 → h.up ((n + j) % 4) = false) : pickR h = (h, 0, 11) := by
  have h4 : ∀ c, c < 4 → h.up c = false := fun c hc => by
    have := h0 ((c + 4 - n) % 4) (Nat.mod_lt _ (by decide))
    rw [show (n + (c + 4 - n) % 4) % 4 = c by omega] at this
    exact this
  have ha : anyH h = false := by
    unfold anyH
    rw [h4 0 (by decide), h4 1 (by decide), h4 2 (by decide), h4 3 (by decide)]
    rfl
  unfold pickR
  rw [if_neg (by rw [ha]; decide)]
set_option maxRecDepth 100000 in
set_option maxHeartbeats 4000000 in
theorem hPick0_any (x : Wh) (h : Hb) (W : World) (hr : HubR W x h) (hn : 0 ≤ h.next ∧ h.next < 4) : Calls Try.prog 14 #[.agg (hubC x h)] W fun e W' => AnsPk W' e (pickR h) ∧ Below W.heap.size W W' := by
  obtain ⟨V, C, hC, hV, hb, hg, hg2⟩ := boxHZ W x h
  have HB := Lib.hid hb
  have HV := Lib.hid hV
  have HG := Lib.hid hg
  have HJ := Lib.hid hg2
  have HR := Lib.hid (hr.go hb)
  rw [← hC]
  obtain ⟨E, hE⟩ : ∃ E, E = pickR h := ⟨_, rfl⟩
  rw [← hE]
  have HDE := Lib.hid hE
  obtain ⟨n, hnn⟩ : ∃ n : Nat, h.next = (n : Int) := ⟨h.next.toNat, by omega⟩
  have hn4 : n < 4 := by omega
  have HNX := Lib.hid hnn
  clear hg hg2 hb hC hV hr hE hn hnn
  go_enter Try.func14, Try.ntmps14
  go_upto_region 1 with (fail)
  rw [← HV.out]
  go_wp2
  go_loopw [7] (fun i wr => ∃ k : Nat, k ≤ 4 ∧ i = .int .i64 k ∧ Hid (∀ j, j < k → h.up ((n + j) % 4) = false) ∧ wr = V) (fun i _ => 4 - (intOf i).toNat)
  case atStart => exact ⟨0, Nat.zero_le _, rfl, Lib.hid (fun i hi => absurd hi (by omega)), rfl⟩
  case round =>
    obtain ⟨k, hk, rfl, HK, hw⟩ := hrel
    obtain rfl := hw.symm
    by_cases hlt : k < 4
    · have hki : (k : Int) < 4 := by omega
      have hk0 : (0 : Int) ≤ (k : Int) := by omega
      have x0 := HG.out.cell (hubC_next x h)
      rw [HNX.out] at x0
      have CB := Lib.hid (fun w => hubBehind_any n k w hn4 hlt)
      obtain ⟨q, hq⟩ : ∃ q, q = (n + k) % 4 := ⟨_, rfl⟩
      have hq4 : q < 4 := by omega
      have hqi : (q : Int) < 4 := by omega
      have hq0 : (0 : Int) ≤ (q : Int) := by omega
      rw [← hq] at CB
      have HQ := Lib.hid hq
      have HU := Lib.hid (hubC_up x h hq4)
      obtain ⟨u, hu⟩ : ∃ u, u = h.up q := ⟨_, rfl⟩
      rw [← hu] at HU
      have HUE := Lib.hid hu
      have CB1 := Lib.hid (fun w => hubBehind_any q 1 w hq4 (by decide))
      clear hu hq
      go_wp2_with fail
      refine (CB.out _).mono ?_
      rintro e w1 ⟨rfl, hw⟩
      obtain rfl := hw.symm
      have z0 := HG.out.cell HU.out
      cases u with
      | true =>
        have HE2 := Lib.hid (show E = ({ h with next := (((q + 1) % 4 : Nat) : Int) }, ((q : Nat) : Int), 0) by rw [HDE.out, HQ.out]; exact pick_hit HNX.out hn4 hlt HK.out (by rw [← HQ.out]; exact HUE.out.symm))
        obtain ⟨r, hr⟩ : ∃ r, r = (q + 1) % 4 := ⟨_, rfl⟩
        rw [← hr] at CB1 HE2
        clear hr
        have f0 := HG.out.thaw 20
        go_wp2_with fail
        refine (CB1.out _).mono ?_
        rintro e w1 ⟨rfl, hw⟩
        obtain rfl := hw.symm
        go_upto_region 7 with (fail)
        obtain ⟨Y1, hY1⟩ : ∃ Y, Y = V.setCell ⟨W.heap.size, 20, none⟩ (.int .i64 (r : Nat)) := ⟨_, rfl⟩
        have hG1 : BoxH Y1 W.heap.size x { h with next := ((r : Nat) : Int) } := by rw [hY1]; exact HG.out.set (hubC_setNext x h _)
        have hO1 : OnlyH V Y1 W.heap.size := by rw [hY1]; exact (OnlyH.refl V _).setCell 20 _
        rw [← hY1]
        clear hY1 z0 f0 x0
        have HGE := Lib.hid hG1
        have HJE := Lib.hid (hO1.box HJ.out (by omega))
        have HRE := Lib.hid ((hO1.hubR HG.out HR.out).of (h' := { h with next := ((r : Nat) : Int) }) rfl)
        have HBE := Lib.hid (hO1.below HB.out (Nat.le_refl _))
        clear hG1 hO1
        go_wp2_with (first | (refine loadHb _ (.tmp 1) W.heap.size _ _ HGE.out rfl rfl rfl ?_) | (refine storeHb _ (.tmp 2) (.tmp 21) (W.heap.size + 1) _ _ _ HJE.out rfl rfl rfl rfl rfl ?_))
        (try simp only [Exit.inBlock, Exit.then])
        refine bodyPost_ret (retHb3 rfl _ _ (W.heap.size + 1) x { h with next := ((r : Nat) : Int) } _ _ rfl rfl rfl (setRow_heap _ _ _ _ _ _ HJE.out)) rfl ?_
        rw [HE2.out]
        exact hub_end3 rfl HBE.out HJE.out HRE.out
      | false =>
        have HKK := Lib.hid (show ∀ j, j < k + 1 → h.up ((n + j) % 4) = false from fun j hj => by
          by_cases e : j = k
          · subst e; rw [← HQ.out]; exact HUE.out.symm
          · exact HK.out j (by omega))
        clear HK HQ HUE HU CB1 CB
        go_wp2
        go_roundw
        case rel => exact ⟨k + 1, by omega, by go_num, HKK, by first | rfl | trivial⟩
        case measure => simp [intOf]; omega
    · have hki : ¬ (k : Int) < 4 := by omega
      have hk4 : k = 4 := by omega
      subst hk4
      have HE := Lib.hid (show E = (h, 0, 11) by rw [HDE.out]; exact pick_none hn4 HK.out)
      clear HK
      go_wp2_with (first | (refine loadHb _ (.tmp 1) W.heap.size x h HG.out rfl rfl rfl ?_) | (refine storeHb _ (.tmp 2) (.tmp 24) (W.heap.size + 1) x h _ HJ.out rfl rfl rfl rfl rfl ?_))
      (try simp only [Exit.inBlock, Exit.then])
      refine bodyPost_ret (retHb3 rfl _ _ (W.heap.size + 1) x h _ _ rfl rfl rfl (setRow_heap _ _ _ _ _ _ HJ.out)) rfl ?_
      rw [HE.out]
      exact hub_end3 rfl HB.out HJ.out HR.out
end Go.Proofs.Ytplekllhnpljiaa
/- Package hub: what each call answers. -/

namespace Go.Proofs.Ytplekllhnpljiaa
open Go.RowKit

set_option maxRecDepth 100000 in
theorem fewH.b {h : Hb} (k : fewH h) : FewB h := fun i hi => by have := k.at_ hi; omega
set_option maxRecDepth 100000 in
theorem RightHb.b {h : Hb} (k : RightHb h) : FewB h := fun i hi => by have := (k.1 i hi).1.short; omega
set_option maxRecDepth 100000 in
theorem hRight_any (x : Wh) (h : Hb) (W : World) (hf : FewB h) (hl : Hb64 h) (hr : HubR W x h) :
    Calls Try.prog 11 #[.agg (hubC x h)] W fun e W' => e = .returned (.bool (decide (RightHb h))) ∧ Below W.heap.size W W' :=
  hRight0_any x h W hf hl hr
set_option maxRecDepth 100000 in
theorem hSame_any (x y : Wh) (h r : Hb) (W : World) (hf : FewB h) (hf2 : FewB r) (_hl : Hb64 h) (_hl2 : Hb64 r) (hr : HubR W x h) (hs : HubR W y r) :
    Calls Try.prog 12 #[.agg (hubC x h), .agg (hubC y r)] W fun e W' => e = .returned (.bool (decide (SameHb h r))) ∧ Below W.heap.size W W' :=
  hSame0_any x y h r W hf hf2 hr hs
set_option maxRecDepth 100000 in
theorem hAny_any (x : Wh) (h : Hb) (W : World) (_hf : FewB h) (_hl : Hb64 h) (_hr : HubR W x h) :
    Calls Try.prog 16 #[.agg (hubC x h)] W fun e W' => e = .returned (.bool (anyH h)) ∧ Below W.heap.size W W' :=
  hAny0_any x h W
set_option maxRecDepth 100000 in
theorem hRaise_any (x : Wh) (h : Hb) (c : Int) (W : World) (_hR : RightHb h) (hl : Hb64 h) (hr : HubR W x h) (_hc : B64 c) :
    Calls Try.prog 18 #[.agg (hubC x h), .int .i64 c] W fun e W' => AnsHb W' e (raiseR h c).1 (raiseR h c).2 ∧ Below W.heap.size W W' :=
  hRaise0_any x h c W hr hl
set_option maxRecDepth 100000 in
theorem hCut_any (x : Wh) (h : Hb) (c : Int) (W : World) (_hR : RightHb h) (hl : Hb64 h) (hr : HubR W x h) (_hc : B64 c) :
    Calls Try.prog 20 #[.agg (hubC x h), .int .i64 c] W fun e W' => AnsHb W' e (cutR h c).1 (cutR h c).2 ∧ Below W.heap.size W W' :=
  hCut0_any x h c W hr hl
set_option maxRecDepth 100000 in
theorem hPick_any (x : Wh) (h : Hb) (W : World) (hR : RightHb h) (_hl : Hb64 h) (hr : HubR W x h) :
    Calls Try.prog 14 #[.agg (hubC x h)] W fun e W' => AnsPk W' e (pickR h) ∧ Below W.heap.size W W' :=
  hPick0_any x h W hr hR.2
set_option maxRecDepth 100000 in
theorem hPush_any (x : Wh) (h : Hb) (c : Int) (B : Option Addr) (v : List UInt8) (d : Nat) (W : World) (hR : RightHb h) (hl : Hb64 h) (hr : HubR W x h) (_hc : B64 c) (hv : v.length ≤ 50000) (hd : v.length ≤ d) (hdm : d ≤ 9223372036854775807) (hs : Rd W W.heap.size B v) :
    Calls Try.prog 22 #[.agg (hubC x h), .int .i64 c, .slice B v.length d] W fun e W' => AnsPu W' e (pushR h c v) ∧ Below W.heap.size W W' :=
  hPush0_any x h c B v d W hR hl hr hv hd hdm hs

/-! ### what stays right -/
set_option maxRecDepth 100000 in
theorem upd_all {α : Type} {f : Nat → α} {c : Nat} {v : α} {P : α → Prop} (h : ∀ i, i < 4 → P (f i)) (hv : P v) : ∀ i, i < 4 → P (upd f c v i) := fun i hi => by
  by_cases e : i = c
  · subst e; rw [upd_same]; exact hv
  · rw [upd_other _ _ e]; exact h i hi
set_option maxRecDepth 100000 in
theorem b64_0 : B64 0 := by unfold B64; decide
set_option maxRecDepth 100000 in
theorem right_fd0 : RightFd fd0 := ⟨by decide, by decide, fun _ => rfl, .inl (by decide)⟩
set_option maxRecDepth 100000 in
theorem b64_wrap (x : Int) : B64 (wrap64 x) := by unfold B64 wrap64; omega
set_option maxRecDepth 100000 in
theorem raise_right {h : Hb} (k : RightHb h) (c : Nat) : RightHb (raiseH h c) := by
  refine ⟨fun i hi => ?_, k.2⟩
  by_cases e : i = c
  · subst e
    show RightFd (upd h.fd i fd0 i) ∧ (upd h.up i true i = false → upd h.fd i fd0 i = fd0)
    rw [upd_same]
    exact ⟨right_fd0, fun _ => rfl⟩
  · show RightFd (upd h.fd c fd0 i) ∧ (upd h.up c true i = false → upd h.fd c fd0 i = fd0)
    rw [upd_other _ _ e, upd_other _ _ e]
    exact k.1 i hi
set_option maxRecDepth 100000 in
theorem cut_right {h : Hb} (k : RightHb h) (c : Nat) : RightHb (cutH h c) := by
  refine ⟨fun i hi => ?_, k.2⟩
  by_cases e : i = c
  · subst e
    show RightFd (upd h.fd i fd0 i) ∧ (upd h.up i false i = false → upd h.fd i fd0 i = fd0)
    rw [upd_same]
    exact ⟨right_fd0, fun _ => rfl⟩
  · show RightFd (upd h.fd c fd0 i) ∧ (upd h.up c false i = false → upd h.fd c fd0 i = fd0)
    rw [upd_other _ _ e, upd_other _ _ e]
    exact k.1 i hi
set_option maxRecDepth 100000 in
theorem raise_64 {h : Hb} (k : Hb64 h) (c : Nat) : Hb64 (raiseH h c) := by
  refine ⟨fun i hi => ?_, k.2⟩
  by_cases e : i = c
  · subst e
    show B64 (upd h.fd i fd0 i).skip ∧ B64 (upd h.fd i fd0 i).bad ∧ B64 (upd h.life i (wrap64 (h.life i + 1)) i)
    rw [upd_same, upd_same]
    exact ⟨b64_0, b64_0, b64_wrap _⟩
  · show B64 (upd h.fd c fd0 i).skip ∧ B64 (upd h.fd c fd0 i).bad ∧ B64 (upd h.life c (wrap64 (h.life c + 1)) i)
    rw [upd_other _ _ e, upd_other _ _ e]
    exact k.1 i hi
set_option maxRecDepth 100000 in
theorem cut_64 {h : Hb} (k : Hb64 h) (c : Nat) : Hb64 (cutH h c) := by
  refine ⟨fun i hi => ?_, k.2⟩
  by_cases e : i = c
  · subst e
    show B64 (upd h.fd i fd0 i).skip ∧ B64 (upd h.fd i fd0 i).bad ∧ B64 (h.life i)
    rw [upd_same]
    exact ⟨b64_0, b64_0, (k.1 i hi).2.2⟩
  · show B64 (upd h.fd c fd0 i).skip ∧ B64 (upd h.fd c fd0 i).bad ∧ B64 (h.life i)
    rw [upd_other _ _ e]
    exact k.1 i hi
set_option maxRecDepth 100000 in
theorem push_right {h : Hb} (k : RightHb h) {c : Nat} (hc : c < 4) (hu : h.up c = true) (v : List UInt8) : RightHb (pushH h c v) := by
  refine ⟨fun i hi => ?_, k.2⟩
  by_cases e : i = c
  · subst e
    show RightFd (upd h.fd i (pushF (h.fd i) v).1 i) ∧ (h.up i = false → upd h.fd i (pushF (h.fd i) v).1 i = fd0)
    rw [upd_same]
    exact ⟨right_push v (k.1 i hi).1, fun h0 => by rw [hu] at h0; exact Bool.noConfusion h0⟩
  · show RightFd (upd h.fd c (pushF (h.fd c) v).1 i) ∧ (h.up i = false → upd h.fd c (pushF (h.fd c) v).1 i = fd0)
    rw [upd_other _ _ e]
    exact k.1 i hi
set_option maxRecDepth 100000 in
theorem right_b64 {f : Fd} (h : RightFd f) : B64 f.skip := by have h1 := h.1; have h2 := h.2.1; unfold B64; omega
set_option maxRecDepth 100000 in
theorem push_64 {h : Hb} (k : Hb64 h) (kr : RightHb h) {c : Nat} (hc : c < 4) (v : List UInt8) : Hb64 (pushH h c v) := by
  refine ⟨fun i hi => ?_, k.2⟩
  by_cases e : i = c
  · subst e
    show B64 (upd h.fd i (pushF (h.fd i) v).1 i).skip ∧ B64 (upd h.fd i (pushF (h.fd i) v).1 i).bad ∧ B64 (h.life i)
    rw [upd_same]
    exact ⟨right_b64 (right_push v (kr.1 i hi).1), push_bad64 v _ (k.1 i hi).2.1, (k.1 i hi).2.2⟩
  · show B64 (upd h.fd c (pushF (h.fd c) v).1 i).skip ∧ B64 (upd h.fd c (pushF (h.fd c) v).1 i).bad ∧ B64 (h.life i)
    rw [upd_other _ _ e]
    exact k.1 i hi
set_option maxRecDepth 100000 in
theorem raiseR_right {h : Hb} (k : RightHb h) (c : Int) : RightHb (raiseR h c).1 := by
  unfold raiseR
  split
  · split
    · exact k
    · exact raise_right k _
  · exact k
set_option maxRecDepth 100000 in
theorem cutR_right {h : Hb} (k : RightHb h) (c : Int) : RightHb (cutR h c).1 := by
  unfold cutR
  split
  · split
    · exact cut_right k _
    · exact k
  · exact k
set_option maxRecDepth 100000 in
theorem pushR_right {h : Hb} (k : RightHb h) (c : Int) (v : List UInt8) : RightHb (pushR h c v).1 := by
  unfold pushR
  split
  · rename_i hc
    split
    · rename_i hu
      exact push_right k (by omega) hu v
    · exact k
  · exact k
set_option maxRecDepth 100000 in
theorem raiseR_64 {h : Hb} (k : Hb64 h) (c : Int) : Hb64 (raiseR h c).1 := by
  unfold raiseR
  split
  · split
    · exact k
    · exact raise_64 k _
  · exact k
set_option maxRecDepth 100000 in
theorem cutR_64 {h : Hb} (k : Hb64 h) (c : Int) : Hb64 (cutR h c).1 := by
  unfold cutR
  split
  · split
    · exact cut_64 k _
    · exact k
  · exact k
set_option maxRecDepth 100000 in
theorem pushR_64 {h : Hb} (k : Hb64 h) (kr : RightHb h) (c : Int) (v : List UInt8) : Hb64 (pushR h c v).1 := by
  unfold pushR
  split
  · rename_i hc
    split
    · exact push_64 k kr (by omega) v
    · exact k
  · exact k
set_option maxRecDepth 100000 in
theorem pickR_right {h : Hb} (k : RightHb h) : RightHb (pickR h).1 := by
  unfold pickR
  split
  · exact ⟨k.1, by show 0 ≤ (((pkC h + 1) % 4 : Nat) : Int) ∧ (((pkC h + 1) % 4 : Nat) : Int) < 4; omega⟩
  · exact k
set_option maxRecDepth 100000 in
theorem pickR_64 {h : Hb} (k : Hb64 h) : Hb64 (pickR h).1 := by
  unfold pickR
  split
  · exact ⟨k.1, by show B64 (((pkC h + 1) % 4 : Nat) : Int); unfold B64; omega⟩
  · exact k
set_option maxRecDepth 100000 in
theorem hb0_right : RightHb hb0 := ⟨fun _ _ => ⟨right_fd0, fun _ => rfl⟩, by decide, by decide⟩
set_option maxRecDepth 100000 in
theorem hb0_64 : Hb64 hb0 := ⟨fun _ _ => ⟨b64_0, b64_0, b64_0⟩, b64_0⟩
end Go.Proofs.Ytplekllhnpljiaa
