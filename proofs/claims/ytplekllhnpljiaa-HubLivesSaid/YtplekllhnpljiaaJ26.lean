
/- The document's answers (hub): Push. -/
import Derived.Test.YtplekllhnpljiaaJ25
import Derived.Test.YtplekllhnpljiaaJ16
import Derived.ChangeKeysEq
namespace Go.Proofs.Ytplekllhnpljiaa
open Go.RowKit

/-- what Push answers -/
def pushR (h : Hb) (c : Int) (v : List UInt8) : Hb × List (List UInt8) × Int :=
  if 0 ≤ c ∧ c < 4 then (if h.up c.toNat = true then (pushH h c.toNat v, (pushF (h.fd c.toNat) v).2, 0) else (h, [], 11)) else (h, [], 1)
def AnsPu (W' : World) (e : Ending) (r : Hb × List (List UInt8) × Int) : Prop := ∃ x A c, e = .returned (.tuple #[.agg (hubC x r.1), .slice A r.2.1.length c, .int .i64 r.2.2]) ∧ HubR W' x r.1 ∧ r.2.1.length ≤ c ∧ c ≤ 9223372036854775807 ∧ Mat W' W'.heap.size A r.2.1
set_option maxRecDepth 100000 in
theorem Mat.only {w w' : World} {g : Nat} {A : Option Addr} {l : List (List UInt8)} {x : Wh} {h : Hb} (k : OnlyH w w' g) (hg : BoxH w g x h) (hm : Mat w w.heap.size A l) (hne : ∀ b o, A = some ⟨b, o, none⟩ → 0 < l.length → b ≠ g) : Mat w' w'.heap.size A l := by
  intro h0
  obtain ⟨b, o, rfl, hb, hc⟩ := hm h0
  refine ⟨b, o, rfl, by rw [k.2.1]; exact hb, fun j hj => ?_⟩
  obtain ⟨A1, c1, e1, h1, h2, h3⟩ := hc j hj
  exact ⟨A1, c1, by rw [World.cell?_of_block (w := w) (a := ⟨b, o + j, none⟩) (k.1 b (hne b o rfl h0))]; exact e1, h1, h2, h3.keepN hg (noBH x h) k.1 (Nat.le_of_eq k.2.1.symm)⟩
set_option maxRecDepth 100000 in
theorem mat_nil {w : World} {B : Nat} {A : Option Addr} : Mat w B A [] := fun h => absurd h (by simp)
set_option maxRecDepth 100000 in
theorem hub_endP {W w : World} {x y : Wh} {h r : Hb} {n : Int} {C : Array Value} {A : Option Addr} {c m : Nat} {l : List (List UInt8)} (hC : C = hubC x h) (hb : Below W.heap.size W w) (hg : BoxH w (W.heap.size + 1) y r) (hr : HubR w x h)
    (hm : m = l.length) (hc : l.length ≤ c) (hcm : c ≤ 9223372036854775807) (hM : Mat w w.heap.size A l) (hne : ∀ b o, A = some ⟨b, o, none⟩ → 0 < l.length → b ≠ W.heap.size + 1) :
    AnsPu (w.setRow (W.heap.size + 1) C) (.returned (.tuple #[.agg C, .slice A m c, .int .i64 n])) (h, l, n) ∧ Below W.heap.size W (w.setRow (W.heap.size + 1) C) := by
  subst hC hm
  exact ⟨⟨x, A, c, rfl, ((OnlyH.refl w _).setRow _).hubR hg hr, hc, hcm, Mat.only ((OnlyH.refl w _).setRow _) hg hM hne⟩, ((OnlyH.refl w _).setRow _).below hb (by omega)⟩

set_option maxRecDepth 100000 in
set_option maxHeartbeats 4000000 in
theorem refPush9_any (x : Wh) (h : Hb) (c : Int) (B : Option Addr) (v : List UInt8) (d : Nat) (W : World) (hr : HubR W x h) (hR : RightHb h) (hv : v.length ≤ 100000) (hs : Rd W W.heap.size B v) :
    Calls Try.prog 23 #[.agg (hubC x h), .int .i64 c, .slice B v.length d] W fun e W' => AnsPu W' e (pushR h c v) ∧ Below W.heap.size W W' := by
  obtain ⟨V, C, hC, hV, hb, hg, hg2⟩ := boxHZ W x h
  have HB := Lib.hid hb
  have HV := Lib.hid hV
  have HG := Lib.hid hg
  have HJ := Lib.hid hg2
  have HR := Lib.hid (hr.go hb)
  have HS := Lib.hid (hs.go hb)
  have HRT := Lib.hid hR
  have HVL := Lib.hid hv
  rw [← hC]
  obtain ⟨E, hE⟩ : ∃ E, E = pushR h c v := ⟨_, rfl⟩
  rw [← hE]
  have HDE := Lib.hid hE
  have HSZ := Lib.hid (show V.heap.size = W.heap.size + 2 by rw [hV]; simp)
  clear hg hg2 hb hC hV hr hE hR hs hv
  obtain ⟨n, hn⟩ : ∃ n, n = v.length := ⟨_, rfl⟩
  have HN := Lib.hid hn
  rw [← hn]
  clear hn
  by_cases hc : 0 ≤ c ∧ c < 4
  case neg =>
    have HE := Lib.hid (show E = (h, [], 1) by rw [HDE.out]; unfold pushR; rw [if_neg hc])
    clear HDE
    by_cases h0 : c < 0
    · clear hc
      go_enter Try.func23, Try.ntmps23
      go_upto_region 1 with (fail)
      rw [← HV.out]
      go_wp2_with (first | (refine loadHb _ (.tmp 3) W.heap.size x h HG.out rfl rfl rfl ?_) | (refine storeHb _ (.tmp 6) (.tmp 17) (W.heap.size + 1) x h _ HJ.out rfl rfl rfl rfl rfl ?_))
      (try simp only [Exit.inBlock, Exit.then])
      refine bodyPost_ret (retHb3 rfl _ _ (W.heap.size + 1) x h _ _ rfl rfl rfl (setRow_heap _ _ _ _ _ _ HJ.out)) rfl ?_
      rw [HE.out]
      exact hub_endP rfl HB.out HJ.out HR.out rfl (Nat.le_refl _) (by decide) mat_nil (fun _ _ _ h0 => absurd h0 (by simp))
    · have i1 : (3 : Int) < c := by omega
      clear hc
      go_enter Try.func23, Try.ntmps23
      go_upto_region 1 with (fail)
      rw [← HV.out]
      go_wp2_with (first | (refine loadHb _ (.tmp 3) W.heap.size x h HG.out rfl rfl rfl ?_) | (refine storeHb _ (.tmp 6) (.tmp 17) (W.heap.size + 1) x h _ HJ.out rfl rfl rfl rfl rfl ?_))
      (try simp only [Exit.inBlock, Exit.then])
      refine bodyPost_ret (retHb3 rfl _ _ (W.heap.size + 1) x h _ _ rfl rfl rfl (setRow_heap _ _ _ _ _ _ HJ.out)) rfl ?_
      rw [HE.out]
      exact hub_endP rfl HB.out HJ.out HR.out rfl (Nat.le_refl _) (by decide) mat_nil (fun _ _ _ h0 => absurd h0 (by simp))
  obtain ⟨k, rfl⟩ := Int.eq_ofNat_of_zero_le hc.1
  have hlt : k < 4 := by omega
  have i1 : ¬ (k : Int) < 0 := by omega
  have i2 : ¬ (3 : Int) < (k : Int) := by omega
  have i3 : (k : Int) < 4 := by omega
  have i0 : (0 : Int) ≤ (k : Int) := by omega
  have HE := Lib.hid (show E = (if h.up k = true then (pushH h k v, (pushF (h.fd k) v).2, 0) else (h, [], 11)) by rw [HDE.out]; unfold pushR; rw [if_pos hc]; rfl)
  have HU := Lib.hid (hubC_up x h hlt)
  clear HDE hc
  obtain ⟨u, hu⟩ : ∃ u, u = h.up k := ⟨_, rfl⟩
  rw [← hu] at HE HU
  clear hu
  go_enter Try.func23, Try.ntmps23
  go_upto_region 1 with (fail)
  rw [← HV.out]
  have z0 := HG.out.cell HU.out
  cases u with
  | false =>
    have HE2 := Lib.hid (show E = (h, [], 11) by rw [HE.out]; rfl)
    clear HE
    go_wp2_with (first | (refine loadHb _ (.tmp 3) W.heap.size x h HG.out rfl rfl rfl ?_) | (refine storeHb _ (.tmp 6) (.tmp 23) (W.heap.size + 1) x h _ HJ.out rfl rfl rfl rfl rfl ?_))
    (try simp only [Exit.inBlock, Exit.then])
    refine bodyPost_ret (retHb3 rfl _ _ (W.heap.size + 1) x h _ _ rfl rfl rfl (setRow_heap _ _ _ _ _ _ HJ.out)) rfl ?_
    rw [HE2.out]
    exact hub_endP rfl HB.out HJ.out HR.out rfl (Nat.le_refl _) (by decide) mat_nil (fun _ _ _ h0 => absurd h0 (by simp))
  | true =>
    have HE2 := Lib.hid (show E = (pushH h k v, (pushF (h.fd k) v).2, 0) by rw [HE.out]; rfl)
    clear HE
    have CP := Lib.hid (show Calls Try.prog 26 #[.agg #[.slice (x k).1 (h.fd k).buf.length (x k).2, .int .i64 (h.fd k).skip, .int .i64 (h.fd k).bad], .slice B n d] V fun e W' => AnsPushN V.heap.size W' e (pushF (h.fd k) v).1 (pushF (h.fd k) v).2 ∧ Below V.heap.size V W' from by
      rw [HN.out]
      exact refPushN_any (x k).1 (h.fd k).buf (x k).2 (h.fd k).skip (h.fd k).bad B v d V (HRT.out.1 k hlt).1 (HR.out k hlt).1 (HR.out k hlt).2.1 (HR.out k hlt).2.2 HVL.out HS.out)
    unfold AnsPushN at CP
    have x0 := HG.out.cell (hubC_buf x h hlt)
    have x1 := HG.out.cell (hubC_skip x h hlt)
    have x2 := HG.out.cell (hubC_bad x h hlt)
    unfold slH at x0
    obtain ⟨X, hX⟩ : ∃ X, X = pushF (h.fd k) v := ⟨_, rfl⟩
    have HXE := Lib.hid hX
    rw [← hX] at CP HE2
    clear hX
    go_wp2_with fail
    refine CP.out.mono ?_
    rintro e w1 ⟨⟨A1, c1, A2, c2, rfl, q1, q2, q3, q4, q5, q6, q7⟩, hb1⟩
    obtain ⟨Y0, hY0⟩ : ∃ Y, Y = w1.alloc (.cells #[.slice A1 X.1.buf.length c1, .int .i64 X.1.skip, .int .i64 X.1.bad] 25) := ⟨_, rfl⟩
    have hal : Below w1.heap.size w1 Y0 := by rw [hY0]; exact (Below.refl _ _).alloc (Nat.le_refl _) _
    have hF : Y0.heap[w1.heap.size]? = some (.cells #[.slice A1 X.1.buf.length c1, .int .i64 X.1.skip, .int .i64 X.1.bad] 25 (0, 0)) := by rw [hY0]; exact heap_alloc_new w1 _
    have hbY : Below V.heap.size V Y0 := belG hb1 hal hb1.size
    have HBY := Lib.hid (belG HB.out hbY HB.out.size)
    have HGY := Lib.hid (HG.out.old hbY (Nat.le_refl _))
    have HJY := Lib.hid (HJ.out.old hbY (Nat.le_refl _))
    have HRY := Lib.hid (HR.out.go hbY)
    have HQ1 := Lib.hid q1
    have HQ2 := Lib.hid q2
    have HQ3 := Lib.hid (q3.go hal)
    have HQ4 := Lib.hid (And.intro q4 q5)
    have HQ6 := Lib.hid ((q6.below hal (Nat.le_refl _)).more hal.size)
    have HQ7 := Lib.hid q7
    have HFD := Lib.hid hF
    have HW1 := Lib.hid hb1.size
    clear hb1 q1 q2 q3 q4 q5 q6 q7 hal hF hbY x0 x1 x2 z0 CP HS HB HG HJ HR
    go_upto_region 6 with (fail)
    rw [← hY0]
    clear hY0
    obtain ⟨gf, hgf⟩ : ∃ g, g = w1.heap.size := ⟨_, rfl⟩
    rw [← hgf] at HFD ⊢
    have hne : gf ≠ W.heap.size := by have h1 := HW1.out; have h2 := HSZ.out; omega
    clear hgf
    obtain ⟨y0, y1, y2⟩ := cG3 HFD.out
    have f0 := HGY.out.thaw (4 + k * 3)
    have f1 := HGY.out.thaw (4 + k * 3 + 1)
    have f2 := HGY.out.thaw (4 + k * 3 + 2)
    have x0 := HGY.out.cell (hubC_buf x h hlt)
    have x1 := HGY.out.cell (hubC_skip x h hlt)
    have x2 := HGY.out.cell (hubC_bad x h hlt)
    unfold slH at x0
    go_upto_region 7 with (fail)
    obtain ⟨Y2, hY2⟩ : ∃ Y, Y = ((Y0.setCell ⟨W.heap.size, 4 + k * 3, none⟩ (.slice A1 X.1.buf.length c1)).setCell ⟨W.heap.size, 4 + k * 3 + 1, none⟩ (.int .i64 X.1.skip)).setCell ⟨W.heap.size, 4 + k * 3 + 2, none⟩ (.int .i64 X.1.bad) := ⟨_, rfl⟩
    have hG2 : BoxH Y2 W.heap.size (upd x k (A1, c1)) { h with fd := upd h.fd k X.1 } := by rw [hY2]; exact HGY.out.setFd hlt A1 c1 X.1
    have hO2 : OnlyH Y0 Y2 W.heap.size := by rw [hY2]; exact (((OnlyH.refl Y0 _).setCell _ _).setCell _ _).setCell _ _
    rw [← hY2]
    clear hY2 f0 f1 f2 x0 x1 x2 y0 y1 y2
    have HE3 := Lib.hid (show E = ({ h with fd := upd h.fd k X.1 }, X.2, 0) by rw [HE2.out, HXE.out]; rfl)
    have HGE := Lib.hid hG2
    have HJE := Lib.hid (hO2.box HJY.out (by omega))
    have HRE := Lib.hid ((hO2.hubR HGY.out HRY.out).upd (h' := { h with fd := upd h.fd k X.1 }) k (f := X.1) (A := A1) (n := c1) HQ1.out HQ2.out (HQ3.out.keepN HGY.out (noBH _ _) hO2.1 (Nat.le_of_eq hO2.2.1.symm)) rfl)
    have HBE := Lib.hid (hO2.below HBY.out (Nat.le_refl _))
    have HFR := Lib.hid (fun (b o : Nat) (e : A2 = some ⟨b, o, none⟩) (h0 : 0 < X.2.length) => show W.heap.size + 2 ≤ b from by
      obtain ⟨b', o', e', hb'⟩ := HQ7.out h0
      rw [e] at e'
      cases e'
      have := HSZ.out
      omega)
    have HME := Lib.hid (Mat.only hO2 HGY.out HQ6.out (fun b o e h0 => by have := HFR.out b o e h0; omega))
    clear hG2 hO2
    go_wp2_with (first | (refine loadHb _ (.tmp 3) W.heap.size _ _ HGE.out rfl rfl rfl ?_) | (refine storeHb _ (.tmp 6) (.tmp 37) (W.heap.size + 1) _ _ _ HJE.out rfl rfl rfl rfl rfl ?_))
    (try simp only [Exit.inBlock, Exit.then])
    refine bodyPost_ret (retHb3 rfl _ _ (W.heap.size + 1) (upd x k (A1, c1)) { h with fd := upd h.fd k X.1 } _ _ rfl rfl rfl (setRow_heap _ _ _ _ _ _ HJE.out)) rfl ?_
    rw [HE3.out]
    exact hub_endP rfl HBE.out HJE.out HRE.out rfl HQ4.out.1 HQ4.out.2 HME.out (fun b o e h0 => by have := HFR.out b o e h0; omega)
end Go.Proofs.Ytplekllhnpljiaa
/- Package hub: is, behind, turned, Any; rows that are compared. -/

namespace Go.Proofs.Ytplekllhnpljiaa
open Go.RowKit

/-- no feed has many bytes -/
def FewB (h : Hb) : Prop := ∀ i, i < 4 → (h.fd i).buf.length ≤ 50000
set_option maxRecDepth 100000 in
theorem hubIs_any (c : Int) (W : World) : Calls Try.prog 32 #[.int .i64 c] W fun e W' => e = .returned (.bool (decide (0 ≤ c ∧ c < 4))) ∧ W' = W := by
  by_cases h0 : (0 : Int) ≤ c
  · by_cases h1 : c < 4
    · rw [decide_eq_true (show 0 ≤ c ∧ c < 4 from ⟨h0, h1⟩)]
      go_enter Try.func32, Try.ntmps32
      go_wp2
      go_ret
      exact ⟨by first | rfl | (simp [h0, h1]; done), by first | rfl | trivial⟩
    · rw [decide_eq_false (show ¬ (0 ≤ c ∧ c < 4) from fun k => h1 k.2)]
      go_enter Try.func32, Try.ntmps32
      go_wp2
      go_ret
      exact ⟨by first | rfl | (simp [h0, h1]; done) | (simp; omega), by first | rfl | trivial⟩
  · rw [decide_eq_false (show ¬ (0 ≤ c ∧ c < 4) from fun k => h0 k.1)]
    go_enter Try.func32, Try.ntmps32
    go_wp2
    go_ret
    exact ⟨by first | rfl | (simp [h0]; done) | (simp; omega), by first | rfl | trivial⟩
set_option maxRecDepth 100000 in
theorem hubBehind_any (c i : Nat) (W : World) (hc : c < 4) (hi : i < 4) : Calls Try.prog 33 #[.int .i64 c, .int .i64 i] W fun e W' => e = .returned (.int .i64 (((c + i) % 4 : Nat) : Int)) ∧ W' = W := by
  obtain ⟨m, hm⟩ : ∃ m, m = c + i := ⟨_, rfl⟩
  have hm8 : m < 8 := by omega
  have h1 : (c : Int) + (i : Int) = (m : Int) := by omega
  have h2 : IntKind.i64.wrap (m : Int) = (m : Int) := IntWalk.i64_in _ (by omega)
  have h3 : IntKind.u64.wrap (m : Int) = (m : Int) := by rw [IntKind.wrap_u64]; omega
  obtain ⟨q, hq⟩ : ∃ q, q = m % 4 := ⟨_, rfl⟩
  have hq4 : q < 4 := by omega
  have h4 : (m : Int) % 4 = (q : Int) := by omega
  have h5 : (m : Int).tmod 4 = (q : Int) := by rw [Int.tmod_eq_emod_of_nonneg (by omega)]; exact h4
  have h6 : IntKind.i64.wrap (q : Int) = (q : Int) := IntWalk.i64_in _ (by omega)
  have h7 : IntKind.u64.wrap (q : Int) = (q : Int) := by rw [IntKind.wrap_u64]; omega
  rw [← hm, ← hq]
  clear hm hq
  go_enter Try.func33, Try.ntmps33
  go_wp2
  go_ret
  exact ⟨by first | rfl | (simp [*]; done), by first | rfl | trivial⟩
set_option maxRecDepth 100000 in
/-- rows of cells that are compared one by one -/
theorem eqItems_g (d : Nat) (W : World) (te : TypeId) (hp : Try.prog.plainKey te = true) (hc : Try.prog.cellsOf te = 1) (xs ys : Array Value) (p : Nat → Bool) : ∀ l : List Nat, (∀ j ∈ l, ∃ a b, xs[j]? = some a ∧ ys[j]? = some b ∧ (Op.equalIn (d + 1) te a b).run Try.prog W = .ok (p j) W) → (Op.eqItems (d + 1) te (Try.prog.cellsOf te) xs ys l).run Try.prog W = .ok (l.all p) W
  | [], _ => by simp [Op.eqItems]
  | j :: l, h => by
    obtain ⟨a, b, ha, hb, he⟩ := h j (by simp)
    have h1 := run_part_plain W (P := Try.prog) hp (xs := xs) (off := j) ha
    have h2 := run_part_plain W (P := Try.prog) hp (xs := ys) (off := j) hb
    have ih := eqItems_g d W te hp hc xs ys p l (fun k hk => h k (by simp [hk]))
    rw [hc] at ih ⊢
    simp only [Op.eqItems, Nat.mul_one, Sem.run_bind, h1, h2, he, Result.andThen_ok]
    cases hj : p j
    · simp [hj]
    · simp [hj, ih]
def upsC (u : Nat → Bool) : Array Value := #[.bool (u 0), .bool (u 1), .bool (u 2), .bool (u 3)]
def lifesC (l : Nat → Int) : Array Value := #[.int .i64 (l 0), .int .i64 (l 1), .int .i64 (l 2), .int .i64 (l 3)]
set_option maxRecDepth 100000 in
theorem upsC_get (u : Nat → Bool) {c : Nat} (hc : c < 4) : (upsC u)[c]? = some (.bool (u c)) := by rcases lt4 hc with rfl | rfl | rfl | rfl <;> rfl
set_option maxRecDepth 100000 in
theorem lifesC_get (l : Nat → Int) {c : Nat} (hc : c < 4) : (lifesC l)[c]? = some (.int .i64 (l c)) := by rcases lt4 hc with rfl | rfl | rfl | rfl <;> rfl
set_option maxRecDepth 100000 in
theorem all4 (p : Nat → Bool) : (List.range 4).all p = (p 0 && p 1 && p 2 && p 3) := by
  show (p 0 && (p 1 && (p 2 && (p 3 && true)))) = _
  simp [Bool.and_assoc]
set_option maxRecDepth 100000 in
theorem run_equalU (W : World) (u v : Nat → Bool) : (Op.equalIn 10000 22 (.agg (upsC u)) (.agg (upsC v))).run Try.prog W = .ok (u 0 == v 0 && u 1 == v 1 && u 2 == v 2 && u 3 == v 3) W := by
  obtain ⟨i, hi⟩ : ∃ i, Try.prog.info? 4 = some i := ⟨_, rfl⟩
  have h5 := run_equalIn_array W 9999 (upsC u) (upsC v) Try.underlying22 hi
  rw [h5, eqItems_g 9998 W 4 (by kernel_rfl) (by kernel_rfl) _ _ (fun j => u j == v j) _ (fun j hj => ⟨_, _, upsC_get u (List.mem_range.1 hj), upsC_get v (List.mem_range.1 hj), run_equalIn_bool W 9998 4 _ _ Try.underlying4⟩), all4]
set_option maxRecDepth 100000 in
theorem run_equalL (W : World) (u v : Nat → Int) : (Op.equalIn 10000 27 (.agg (lifesC u)) (.agg (lifesC v))).run Try.prog W = .ok (u 0 == v 0 && u 1 == v 1 && u 2 == v 2 && u 3 == v 3) W := by
  obtain ⟨i, hi⟩ : ∃ i, Try.prog.info? 3 = some i := ⟨_, rfl⟩
  have h5 := run_equalIn_array W 9999 (lifesC u) (lifesC v) Try.underlying27 hi
  rw [h5, eqItems_g 9998 W 3 (by kernel_rfl) (by kernel_rfl) _ _ (fun j => u j == v j) _ (fun j hj => ⟨_, _, lifesC_get u (List.mem_range.1 hj), lifesC_get v (List.mem_range.1 hj), run_equalIn_int W 9998 3 .i64 .i64 _ _ Try.underlying3⟩), all4]
set_option maxRecDepth 100000 in
theorem run_eqlU (W : World) (u v : Nat → Bool) : (binOp .eql 22 (.agg #[.bool (u 0), .bool (u 1), .bool (u 2), .bool (u 3)]) (.agg #[.bool (v 0), .bool (v 1), .bool (v 2), .bool (v 3)])).run Try.prog W = .ok (.bool (u 0 == v 0 && u 1 == v 1 && u 2 == v 2 && u 3 == v 3)) W := by
  rw [run_eql_struct]
  have h := run_equalU W u v
  unfold upsC at h
  rw [h]
  rfl
set_option maxRecDepth 100000 in
theorem run_neqU (W : World) (u v : Nat → Bool) : (binOp .neq 22 (.agg #[.bool (u 0), .bool (u 1), .bool (u 2), .bool (u 3)]) (.agg #[.bool (v 0), .bool (v 1), .bool (v 2), .bool (v 3)])).run Try.prog W = .ok (.bool (!(u 0 == v 0 && u 1 == v 1 && u 2 == v 2 && u 3 == v 3))) W := by
  rw [run_neq_struct]
  have h := run_equalU W u v
  unfold upsC at h
  rw [h]
  rfl
set_option maxRecDepth 100000 in
theorem run_eqlL (W : World) (u v : Nat → Int) : (binOp .eql 27 (.agg #[.int .i64 (u 0), .int .i64 (u 1), .int .i64 (u 2), .int .i64 (u 3)]) (.agg #[.int .i64 (v 0), .int .i64 (v 1), .int .i64 (v 2), .int .i64 (v 3)])).run Try.prog W = .ok (.bool (u 0 == v 0 && u 1 == v 1 && u 2 == v 2 && u 3 == v 3)) W := by
  rw [run_eql_struct]
  have h := run_equalL W u v
  unfold lifesC at h
  rw [h]
  rfl
set_option maxRecDepth 100000 in
theorem hAny0_any (x : Wh) (h : Hb) (W : World) : Calls Try.prog 16 #[.agg (hubC x h)] W fun e W' => e = .returned (.bool (anyH h)) ∧ Below W.heap.size W W' := by
  obtain ⟨V, C, hC, hV, hb, hg⟩ := boxH1 W x h
  have x0 := hg.cell (hubC_up x h (show 0 < 4 by decide))
  have x1 := hg.cell (hubC_up x h (show 1 < 4 by decide))
  have x2 := hg.cell (hubC_up x h (show 2 < 4 by decide))
  have x3 := hg.cell (hubC_up x h (show 3 < 4 by decide))
  have HB := Lib.hid hb
  have HV := Lib.hid hV
  rw [← hC]
  rw [hV] at x0 x1 x2 x3
  obtain ⟨D, hD⟩ : ∃ D, D = anyH h := ⟨_, rfl⟩
  rw [← hD]
  have hq : ∀ w, (binOp .neq 22 (.agg #[.bool (h.up 0), .bool (h.up 1), .bool (h.up 2), .bool (h.up 3)]) (.agg #[.bool false, .bool false, .bool false, .bool false])).run Try.prog w = .ok (.bool D) w := fun w => by
    have h1 := run_neqU w h.up (fun _ => false)
    rw [h1, hD]
    unfold anyH
    cases h.up 0 <;> cases h.up 1 <;> cases h.up 2 <;> cases h.up 3 <;> rfl
  generalize h.up 0 = u0 at *
  generalize h.up 1 = u1 at *
  generalize h.up 2 = u2 at *
  generalize h.up 3 = u3 at *
  clear hg hb hC hV hD
  go_enter Try.func16, Try.ntmps16
  go_wp2
  go_ret
  exact ⟨rfl, by rw [← HV.out]; exact HB.out⟩
set_option maxRecDepth 100000 in
theorem retH1 {fn : Func} {p : Tmp} (h : fn.results = #[.cell p 29]) (tmps : Array Value) (W : World) (g : Nat) (x : Wh) (r : Hb) (hp : tmps.getD p undef = .pointer (some ⟨g, 0, none⟩)) (hg : BoxH W g x r) :
    (results fn tmps).run Try.prog W = .ok (.agg (hubC x r)) W :=
  results_cell_row h tmps W g 29 (hubC x r) (0, 0) _ hp hg Try.underlying29 rfl (by rw [hubC_size]; kernel_rfl)
/-- a connection turned -/
def turnH (h : Hb) (c : Nat) (b : Bool) : Hb := { h with up := upd h.up c b, fd := upd h.fd c fd0 }
set_option maxRecDepth 100000 in
set_option maxHeartbeats 4000000 in
theorem turned9_any (x : Wh) (h : Hb) (k : Nat) (b : Bool) (W : World) (hlt : k < 4) : Calls Try.prog 34 #[.agg (hubC x h), .int .i64 k, .bool b] W fun e W' => e = .returned (.agg (hubC (upd x k (none, 0)) (turnH h k b))) ∧ Below W.heap.size W W' := by
  obtain ⟨V, C, hC, hV, hb, hg, hg2⟩ := boxHZ W x h
  have HB := Lib.hid hb
  have HV := Lib.hid hV
  have HG := Lib.hid hg
  have HJ := Lib.hid hg2
  rw [← hC]
  have i3 : (k : Int) < 4 := by omega
  have i0 : (0 : Int) ≤ (k : Int) := by omega
  have z0 := hg.cell (hubC_up x h hlt)
  have f0 := hg.thaw k
  clear hg hg2 hb hC hV
  go_enter Try.func34, Try.ntmps34
  go_upto_region 1 with (fail)
  rw [← HV.out]
  go_upto_region 2 with (fail)
  obtain ⟨Y1, hY1⟩ : ∃ Y, Y = V.setCell ⟨W.heap.size, k, none⟩ (.bool b) := ⟨_, rfl⟩
  have hG1 : BoxH Y1 W.heap.size x { h with up := upd h.up k b } := by rw [hY1]; exact HG.out.set (hubC_setUp x h hlt b)
  have hO1 : OnlyH V Y1 W.heap.size := by rw [hY1]; exact (OnlyH.refl V _).setCell k _
  rw [← hY1]
  clear hY1 z0 f0
  have f0 := hG1.thaw (4 + k * 3)
  have f1 := hG1.thaw (4 + k * 3 + 1)
  have f2 := hG1.thaw (4 + k * 3 + 2)
  have x0 := hG1.cell (hubC_buf _ _ hlt)
  have x1 := hG1.cell (hubC_skip _ _ hlt)
  have x2 := hG1.cell (hubC_bad _ _ hlt)
  unfold slH at x0
  have HG1 := Lib.hid hG1
  have HO1 := Lib.hid hO1
  clear hG1 hO1
  go_upto_region 3 with (fail)
  obtain ⟨Y2, hY2⟩ : ∃ Y, Y = ((Y1.setCell ⟨W.heap.size, 4 + k * 3, none⟩ (.slice none 0 0)).setCell ⟨W.heap.size, 4 + k * 3 + 1, none⟩ (.int .i64 0)).setCell ⟨W.heap.size, 4 + k * 3 + 2, none⟩ (.int .i64 0) := ⟨_, rfl⟩
  have hG2 : BoxH Y2 W.heap.size (upd x k (none, 0)) (turnH h k b) := by rw [hY2]; exact HG1.out.setFd hlt none 0 fd0
  have hO2 : OnlyH V Y2 W.heap.size := by rw [hY2]; exact ((HO1.out.setCell _ _).setCell _ _).setCell _ _
  rw [← hY2]
  clear hY2 f0 f1 f2 x0 x1 x2
  have HGE := Lib.hid hG2
  have HJE := Lib.hid (hO2.box HJ.out (by omega))
  have HBE := Lib.hid (show Below W.heap.size W Y2 from hO2.below HB.out (Nat.le_refl _))
  clear hG2 hO2
  go_wp2_with (first | (refine loadHb _ (.tmp 3) W.heap.size _ _ HGE.out rfl rfl rfl ?_) | (refine storeHb _ (.tmp 6) (.tmp 15) (W.heap.size + 1) _ _ _ HJE.out rfl rfl rfl rfl rfl ?_))
  (try simp only [Exit.inBlock, Exit.then])
  refine bodyPost_ret (retH1 rfl _ _ (W.heap.size + 1) (upd x k (none, 0)) (turnH h k b) rfl (setRow_heap _ _ _ _ _ _ HJE.out)) rfl ?_
  exact ⟨rfl, ((OnlyH.refl _ _).setRow _).below HBE.out (by omega)⟩
end Go.Proofs.Ytplekllhnpljiaa
