
/- Package iso: apart. -/
import Derived.Test.YtpfjecjfooefoaaDoorJ28
import Derived.Deep.RegionHeld3
import Derived.Test.YtpfjecjfooefoaaDoorJ16
import Derived.Test.YtpfjecjfooefoaaDoorJ27
import Derived.Test.YtpfjecjfooefoaaDoorJ12
import Derived.Test.YtpfjecjfooefoaaDoorJ01
import Derived.LaidMore
import Derived.MakeChecks
import Derived.Lib.LaidTab
import Derived.OpenShut
import Derived.ChangeSame
namespace Go.Proofs.YtpfjecjfooefoaaDoor
open Go.ChangeShapes Go.WideShapes Go.ChangeAt Go.RowKit

set_option maxRecDepth 100000 in
theorem csF_set (us : List V2f) (k : Nat) (x : Value) (hk : k < us.length) : csF (us.set k (us[k].1, x)) = (csF us).set (k * 2 + 1) x := by
  apply List.ext_getElem?
  intro j
  rw [csF_at, List.getElem?_set, List.getElem?_set (l := csF us), csF_at, csF_length]
  by_cases e : k * 2 + 1 = j
  · subst e
    rw [if_neg (by omega), if_pos (show k = (k * 2 + 1) / 2 by omega), if_pos hk, if_pos rfl, if_pos (by omega)]
    rfl
  · by_cases e2 : k = j / 2
    · rw [if_pos (show j % 2 = 0 by omega), if_pos e2, if_pos hk, if_neg e, if_pos (show j % 2 = 0 by omega), ← e2, List.getElem?_eq_getElem hk]
      rfl
    · rw [if_neg e2, if_neg e]
set_option maxRecDepth 100000 in
theorem OwF.setF {w : World} {base g n cap : Nat} {us : List V2f} (h : OwF w base (.slice (some ⟨g, 0, none⟩) n cap) us) (k : Nat) (hk : k < us.length) (A : Option Addr) (p c : Nat) :
    OwF (w.setCell ⟨g, k * 2 + 1, none⟩ (.slice A p c)) base (.slice (some ⟨g, 0, none⟩) n cap) (us.set k (us[k].1, .slice A p c)) := by
  rcases h with ⟨e, rfl⟩ | ⟨g', cap', cur, e, h1, h2, h3, h4, h5, h6, h7⟩
  · cases e
  · cases e
    have hs := heap_setCell_same w g (k * 2 + 1) cur 60 (.slice A p c) h2
    refine .inr ⟨g, cap, _, by rw [List.length_set], h1, hs, by rw [List.length_set]; exact h3, h4, by simpa using h5, ?_, ?_⟩
    · rw [List.length_set, csF_set us k _ hk, Array.toList_setIfInBounds, List.take_set, h6]
    · intro u hu
      rw [Array.toList_setIfInBounds] at hu
      rcases List.mem_or_eq_of_mem_set hu with h | rfl
      · exact h7 u h
      · rfl
set_option maxRecDepth 100000 in
theorem OwF.blk {w : World} {base g n cap : Nat} {us : List V2f} (h : OwF w base (.slice (some ⟨g, 0, none⟩) n cap) us) : ∃ cur, w.heap[g]? = some (.cells cur 60 (0, 0)) ∧ base ≤ g ∧ (∀ x ∈ cur.toList, NoB x = true) := by
  rcases h with ⟨e, rfl⟩ | ⟨g', cap', cur, e, h1, h2, h3, h4, h5, h6, h7⟩
  · cases e
  · cases e
    exact ⟨cur, h2, h1, h7⟩
set_option maxRecDepth 100000 in
theorem OwF.some {w : World} {base n cap : Nat} {A : Option Addr} {us : List V2f} (h : OwF w base (.slice A n cap) us) (h0 : 0 < us.length) : ∃ g, A = some ⟨g, 0, none⟩ := by
  rcases h with ⟨e, rfl⟩ | ⟨g', cap', cur, e, h1, h2, h3, h4, h5, h6, h7⟩
  · simp at h0
  · cases e
    exact ⟨g', rfl⟩
set_option maxRecDepth 100000 in
theorem FEs.setF {w : World} {us : List V2f} {l : List Fl} (h : FEs w us l) (k : Nat) (hk : k < us.length) (hl : k < l.length) (A : Option Addr) (c : Nat) (h1 : l[k].2.length ≤ c) (h2 : c ≤ 9223372036854775807) (hr : Rd w w.heap.size A l[k].2) : FEs w (us.set k (us[k].1, .slice A l[k].2.length c)) l := by
  refine ⟨by rw [List.length_set]; exact h.1, fun j hj hjl => ?_⟩
  rw [List.getElem_set]
  by_cases e : k = j
  · subst e
    rw [if_pos rfl]
    obtain ⟨A1, c1, e1, -, -, -⟩ := h.2 k hk hl
    exact ⟨A, c, by rw [e1], h1, h2, hr⟩
  · rw [if_neg e]
    exact h.2 j (by rw [List.length_set] at hj; exact hj) hjl
set_option maxRecDepth 100000 in
theorem gOf {a w : World} (h : Below a.heap.size a w) (row : Option Nat) : a.grownBy w row := ⟨h.os, h.tape, h.output, h.size, fun i hi _ => h.block i hi⟩
set_option maxRecDepth 100000 in
theorem gSet {a w : World} {g : Nat} (h : a.grownBy w (some g)) (o : Nat) (u : Value) : a.grownBy (w.setCell ⟨g, o, none⟩ u) (some g) :=
  ⟨h.os, h.tape, h.output, by simpa [World.setCell] using h.size, fun i hi hne => (heap_setCell_other _ _ _ _ (fun e => hne (by rw [e]))).trans (h.block i hi hne)⟩
set_option maxRecDepth 100000 in
theorem gDrew {a w : World} {row : Option Nat} (h : a.grownBy w row) : a.grownBy w.drew row := ⟨h.os, h.tape, h.output, h.size, h.block⟩
/-- an answer: a message whose row is the call's own -/
def AnsOwM (B : Nat) (W' : World) (e : Ending) (t : Int) (l : List Fl) : Prop := ∃ A c us, e = .returned (.agg #[.int .i64 t, .slice A l.length c]) ∧ l.length ≤ c ∧ c ≤ 9223372036854775807 ∧ OwF W' B (.slice A l.length c) us ∧ FEs W' us l
set_option maxRecDepth 100000 in
theorem nob2 {t : Int} {A : Option Addr} {n c : Nat} : ∀ x ∈ (#[.int .i64 t, .slice A n c] : Array Value).toList, NoB x = true := by
  intro x hx
  simp at hx
  rcases hx with rfl | rfl <;> rfl

set_option maxRecDepth 100000 in
set_option maxHeartbeats 8000000 in
theorem apart_any (t : Int) (A : Option Addr) (l : List Fl) (c : Nat) (W : World) (hl : l.length ≤ 1000) (hlb : ∀ x ∈ l, x.2.length ≤ 100000) (hr : RdF W W.heap.size A l) :
    Calls Tryd.prog 61 #[.agg #[.int .i64 t, .slice A l.length c]] W fun e W' => AnsOwM W.heap.size W' e t l ∧ Below W.heap.size W W' := by
  obtain ⟨n, hn⟩ : ∃ n, n = l.length := ⟨_, rfl⟩
  have HN := Lib.hid hn
  have HLB := Lib.hid hlb
  obtain ⟨V, hV, hb, g1, g2⟩ := box2 W #[.int .i64 t, .slice A n c] #[.int .i64 0, .slice none 0 0] 24 24
  have CCl := Lib.hid (cloneF_any A l c V hl (hr.go hb))
  rw [← hn] at hl CCl ⊢
  have HB := Lib.hid hb
  have HV := Lib.hid hV
  have HG1 := Lib.hid g1
  have HG2 := Lib.hid g2
  obtain ⟨e0, e1⟩ := cG2 g1
  rw [hV] at e0 e1
  clear hn hV hb g1 g2 hr
  go_enter Tryd.func61, Tryd.ntmps61
  go_wp2_with fail
  rw [← HV.out]
  clear HV e0 e1
  refine CCl.out.mono ?_
  rintro e w1 ⟨⟨v, us, rfl, ho, hf⟩, hb1⟩
  obtain ⟨A1, c1, rfl, hk1, hk2⟩ := ho.form
  have hgm := oldG HG1.out hb1 (Nat.le_refl _)
  have hgz := oldG HG2.out hb1 (Nat.le_refl _)
  have hul : us.length = n := by rw [hf.1, HN.out]
  rw [hul] at hk1 ho ⊢
  have hsV : W.heap.size < V.heap.size := (Array.getElem?_eq_some_iff.1 HG1.out).1
  have hoth : ∀ k, k ≠ W.heap.size → (w1.setCell ⟨W.heap.size, 1, none⟩ (.slice A1 n c1)).heap[k]? = w1.heap[k]? := fun k hk => heap_setCell_other _ _ _ _ hk
  have hsz : w1.heap.size ≤ (w1.setCell ⟨W.heap.size, 1, none⟩ (.slice A1 n c1)).heap.size := by simp [World.setCell]
  have HOW := Lib.hid (ho.keepM hsV hoth)
  have HFE := Lib.hid (show FEs (w1.setCell ⟨W.heap.size, 1, none⟩ (.slice A1 n c1)) us l from FEs.keep (w := w1) (hf.more hb1.size) (fun B q h => Rd.keepM h hgm nob2 hoth hsz))
  have HGM := Lib.hid (heap_setCell_same w1 W.heap.size 1 _ _ (.slice A1 n c1) hgm)
  have HGZ := Lib.hid ((hoth (W.heap.size + 1) (by omega)).trans hgz)
  have HB1 := Lib.hid ((belG HB.out hb1 HB.out.size).setCell (p := ⟨W.heap.size, 1, none⟩) (Nat.le_refl _) (.slice A1 n c1))
  have HUL := Lib.hid hul
  have HBS := Lib.hid (show W.heap.size + 2 ≤ V.heap.size by have := (Array.getElem?_eq_some_iff.1 HG2.out).1; omega)
  obtain ⟨y0, y1⟩ := cG2 hgm
  have z0 := fG hgm 0
  have z1 := fG hgm 1
  obtain ⟨W2, hW2⟩ : ∃ X, X = w1.setCell ⟨W.heap.size, 1, none⟩ (.slice A1 n c1) := ⟨_, rfl⟩
  rw [← hW2] at HOW HFE HGM HGZ HB1
  have HW2 := Lib.hid hW2
  obtain ⟨e0, e1⟩ := cG2 HGM.out
  clear hb1 ho hf hgm hgz hul hoth hsz hsV CCl HG1 HG2 HB hlb
  rw [hW2] at e0 e1
  clear hW2
  go_wp2
  rw [← HW2.out]
  clear e0 e1 y0 y1 z0 z1
  clear HW2 HUL
  obtain ⟨s, hs⟩ : ∃ s, s = W.heap.size := ⟨_, rfl⟩
  rw [← hs] at HBS HGM HGZ HB1 ⊢
  obtain ⟨B, hB⟩ : ∃ B, B = V.heap.size := ⟨_, rfl⟩
  rw [← hB] at HBS HOW
  have HS := Lib.hid hs
  clear hs hB
  go_loopw [12] (fun i wr => ∃ k : Nat, ∃ us : List V2f, k ≤ n ∧ i = .int .i64 k ∧ Hid (OwF wr B (.slice A1 n c1) us) ∧ Hid (FEs wr us l) ∧ Hid (wr.heap[s]? = some (.cells #[.int .i64 t, .slice A1 n c1] 24 (0, 0))) ∧ Hid (wr.heap[s + 1]? = some (.cells #[.int .i64 0, .slice none 0 0] 24 (0, 0))) ∧ Hid (Below s W wr)) (fun i _ => n - (intOf i).toNat)
  case atStart => exact ⟨0, us, Nat.zero_le _, rfl, HOW, HFE, HGM, HGZ, HB1⟩
  case round =>
    clear HOW HFE HGM HGZ HB1
    obtain ⟨k, us, hkn, rfl, HO, HF, HM, HZ, HBW⟩ := hrel
    by_cases hlt : k < n
    · have hkl : k < l.length := by rw [← HN.out]; exact hlt
      have hku : k < us.length := by rw [HF.out.1]; exact hkl
      obtain ⟨g, rfl⟩ := HO.out.some (by omega)
      obtain ⟨cur, hcur, hBg, hnb⟩ := HO.out.blk
      obtain ⟨Ax, cx, ex, hx1, hx2, hcf⟩ := HO.out.cf
      injection ex with ex1 ex2 ex3
      subst ex1
      obtain ⟨b9, o9, e9, hb9, hc9⟩ := hcf (by omega)
      cases e9
      obtain ⟨r0, r1⟩ := hc9 k hku
      obtain ⟨Ak, ck, ek, q1, q2, q3⟩ := HF.out.2 k hku hkl
      rw [ek, Nat.zero_add] at r0 r1
      have hgs : g ≠ s := by have := HBS.out; omega
      have hgs1 : g ≠ s + 1 := by have := HBS.out; omega
      have hal := (Below.refl wr.heap.size wr).alloc (Nat.le_refl _) (.cells #[.int .i64 l[k].1, .slice Ak l[k].2.length ck] 60)
      have hnew := heap_alloc_new wr (.cells #[.int .i64 l[k].1, .slice Ak l[k].2.length ck] 60)
      obtain ⟨V3, hV3⟩ : ∃ X, X = wr.alloc (.cells #[.int .i64 l[k].1, .slice Ak l[k].2.length ck] 60) := ⟨_, rfl⟩
      rw [← hV3] at hal hnew
      have hM3 := oldG HM.out hal (Nat.le_refl _)
      have hZ3 := oldG HZ.out hal (Nat.le_refl _)
      have hcur3 := oldG hcur hal (Nat.le_refl _)
      have r13 := (hal.cell (p := ⟨g, k * 2 + 1, none⟩) hb9).trans r1
      have HCUR := Lib.hid (fun w' (h : Below V3.heap.size V3 w') => (show w'.cell? ⟨g, k * 2 + 1, none⟩ = some (.slice Ak l[k].2.length ck) ∧ w'.frozen? ⟨g, k * 2 + 1, none⟩ = false from
        ⟨(h.cell (p := ⟨g, k * 2 + 1, none⟩) (Nat.lt_of_lt_of_le hb9 hal.size)).trans r13, fG (oldG hcur3 h (Nat.le_refl _)) _⟩))
      have CB := Lib.hid (fun w' (h : Below V3.heap.size V3 w') => clone5_any Ak l[k].2 ck w' (HLB.out _ (List.getElem_mem _)) ((q3.go hal).go h))
      have KEEP := Lib.hid (fun w' (h : Below V3.heap.size V3 w') => (show V3.grownBy w' (some g) ∧ w'.cell? ⟨s, 1, none⟩ = some (.slice (some ⟨g, 0, none⟩) n c1) ∧ w'.cell? ⟨wr.heap.size, 0, none⟩ = some (.int .i64 l[k].1) ∧ w'.cell? ⟨wr.heap.size, 1, none⟩ = some (.slice Ak l[k].2.length ck) from
        ⟨gOf h _, (cG2 (oldG hM3 h (Nat.le_refl _))).2, (cG2 (oldG hnew h (Nat.le_refl _))).1, (cG2 (oldG hnew h (Nat.le_refl _))).2⟩))
      have hgw : wr.heap.size ≠ g := by omega
      have KEEPS := Lib.hid (fun w' x (h : Below V3.heap.size V3 w') => (show V3.grownBy (w'.setCell ⟨g, k * 2 + 1, none⟩ x) (some g) ∧ (w'.setCell ⟨g, k * 2 + 1, none⟩ x).cell? ⟨s, 1, none⟩ = some (.slice (some ⟨g, 0, none⟩) n c1) ∧ (w'.setCell ⟨g, k * 2 + 1, none⟩ x).cell? ⟨wr.heap.size, 0, none⟩ = some (.int .i64 l[k].1) ∧ (w'.setCell ⟨g, k * 2 + 1, none⟩ x).cell? ⟨wr.heap.size, 1, none⟩ = some (.slice Ak l[k].2.length ck) from
        ⟨gSet (gOf h _) _ _, (cG2 ((heap_setCell_other _ _ _ _ (fun e => hgs e.symm)).trans (oldG hM3 h (Nat.le_refl _)))).2, (cG2 ((heap_setCell_other _ _ _ _ hgw).trans (oldG hnew h (Nat.le_refl _)))).1, (cG2 ((heap_setCell_other _ _ _ _ hgw).trans (oldG hnew h (Nat.le_refl _)))).2⟩))
      -- the round's end
      have HEND := Lib.hid (fun w' A2 c2 (h : Below V3.heap.size V3 w') (h1 : l[k].2.length ≤ c2) (h2 : c2 ≤ 9223372036854775807) (h3 : Rd w' w'.heap.size A2 l[k].2) =>
        (show OwF (w'.setCell ⟨g, k * 2 + 1, none⟩ (.slice A2 l[k].2.length c2)) B (.slice (some ⟨g, 0, none⟩) n c1) (us.set k (us[k].1, .slice A2 l[k].2.length c2)) ∧ FEs (w'.setCell ⟨g, k * 2 + 1, none⟩ (.slice A2 l[k].2.length c2)) (us.set k (us[k].1, .slice A2 l[k].2.length c2)) l ∧
          (w'.setCell ⟨g, k * 2 + 1, none⟩ (.slice A2 l[k].2.length c2)).heap[s]? = some (.cells #[.int .i64 t, .slice (some ⟨g, 0, none⟩) n c1] 24 (0, 0)) ∧ (w'.setCell ⟨g, k * 2 + 1, none⟩ (.slice A2 l[k].2.length c2)).heap[s + 1]? = some (.cells #[.int .i64 0, .slice none 0 0] 24 (0, 0)) ∧
          Below s W (w'.setCell ⟨g, k * 2 + 1, none⟩ (.slice A2 l[k].2.length c2)) from by
          have hoth : ∀ j, j ≠ g → (w'.setCell ⟨g, k * 2 + 1, none⟩ (.slice A2 l[k].2.length c2)).heap[j]? = w'.heap[j]? := fun j hj => heap_setCell_other _ _ _ _ hj
          have hsz : w'.heap.size ≤ (w'.setCell ⟨g, k * 2 + 1, none⟩ (.slice A2 l[k].2.length c2)).heap.size := by simp [World.setCell]
          have hcw := oldG hcur3 h (Nat.le_refl _)
          have kp : ∀ (D : Option Addr) q, Rd w' w'.heap.size D q → Rd (w'.setCell ⟨g, k * 2 + 1, none⟩ (.slice A2 l[k].2.length c2)) (w'.setCell ⟨g, k * 2 + 1, none⟩ (.slice A2 l[k].2.length c2)).heap.size D q := fun D q hq => Rd.keepM hq hcw hnb hoth hsz
          exact ⟨((HO.out.call hal).call h).setF k hku A2 _ c2, ((((HF.out.go hal).go h).keep kp).setF k hku hkl A2 c2 h1 h2 (kp _ _ h3)), (hoth s (fun e => hgs e.symm)).trans (oldG hM3 h (Nat.le_refl _)), (hoth (s + 1) (fun e => hgs1 e.symm)).trans (oldG hZ3 h (Nat.le_refl _)),
            (belG HBW.out (belG hal h hal.size) (by rw [HS.out]; exact HBW.out.size)).setCell (p := ⟨g, k * 2 + 1, none⟩) (by show s ≤ g; have := HBS.out; omega) _⟩))
      have BB0 := Lib.hid ((Below.refl V3.heap.size V3).drew)
      obtain ⟨e0, e1⟩ := cG2 HM.out
      have HV3 := Lib.hid hV3
      have hki : (k : Int) < (n : Int) := by omega
      have hk0 : (0 : Int) ≤ (k : Int) := Int.natCast_nonneg _
      have f1 := (cG2 hM3).2
      obtain ⟨f2, f3⟩ := cG2 hnew
      rw [hV3] at f1 f2 f3
      clear hcur hBg hnb hx1 hx2 hcf hc9 ek q1 q2 q3 hgs hgs1 hal hnew hV3 hM3 hZ3 hcur3 r13 hgw hb9 ex2 ex3
      generalize us.set k = US at *
      generalize us[k].1 = uk at *
      generalize l[k].1 = xk at *
      obtain ⟨q, hq⟩ : ∃ q, q = l[k].2 := ⟨_, rfl⟩
      rw [← hq] at HCUR CB KEEP KEEPS HEND r1 f3
      rw [← hq] at HV3
      clear hq HO HF HM HZ HBW
      generalize q.length = z at *
      go_wp2_with fail
      rw [← HV3.out]
      clear HV3 f1 f2 f3 e0 e1 r0 r1
      go_region_held3 (fun w' => V3.grownBy w' (some g) ∧ w'.cell? ⟨s, 1, none⟩ = some (.slice (some ⟨g, 0, none⟩) n c1) ∧ w'.cell? ⟨wr.heap.size, 0, none⟩ = some (.int .i64 xk) ∧ w'.cell? ⟨wr.heap.size, 1, none⟩ = some (.slice Ak z ck))
        (first | with_reducible exact KEEP.out _ BB0.out | with_reducible exact KEEP.out _ BB1.out | with_reducible exact KEEPS.out _ _ BB1.out)
        ((go_at_call 64; refine (CB.out _ BB0.out).mono ?_; rintro e wb ⟨⟨A2, c2, rfl, p1, p2, p3⟩, hb⟩; have BB1 := Lib.hid (belG BB0.out hb BB0.out.size); have R2 := Lib.hid p3; obtain ⟨k9, z9⟩ := HCUR.out _ BB1.out; clear hb p3))
      all_goals
        obtain ⟨t1, t2, t3, t4, t5⟩ := HEND.out _ A2 c2 BB1.out p1 p2 R2.out
        have T1 := Lib.hid t1
        have T2 := Lib.hid t2
        have T3 := Lib.hid t3
        have T4 := Lib.hid t4
        have T5 := Lib.hid t5
        clear t1 t2 t3 t4 t5 k9 z9 KEEP KEEPS HEND HCUR
        go_wp2
        go_roundw
        case rel => exact ⟨k + 1, _, by omega, by go_num, T1, T2, T3, T4, T5⟩
        case measure => simp [intOf]; omega
    · have hki : ¬ (k : Int) < (n : Int) := by omega
      have hg4 := HZ.out
      obtain ⟨e0, e1⟩ := cG2 HM.out
      obtain ⟨y0, y1⟩ := cG2 hg4
      have z0 := fG hg4 0
      have z1 := fG hg4 1
      clear hg4
      go_wp2
      (try simp only [Exit.inBlock, Exit.then])
      refine bodyPost_ret (retM rfl _ (set2G wr (s + 1) (.int .i64 t) (.slice A1 n c1)) (s + 1) _ _ rfl (set2G_same _ _ HZ.out)) rfl ?_
      have hoth := fun k hk => set2G_other wr (s + 1) k (.int .i64 t) (.slice A1 n c1) hk
      have hsz := set2G_size wr (s + 1) (.int .i64 t) (.slice A1 n c1)
      have hnb : ∀ x ∈ (#[.int .i64 0, .slice none 0 0] : Array Value).toList, NoB x = true := nob2
      have hO2 := OwF.keepM HO.out (show s + 1 < B by have := HBS.out; omega) hoth
      have hF2 := FEs.keep HF.out (fun A l hr => Rd.keepM hr HZ.out hnb hoth (by omega))
      refine ⟨⟨A1, c1, us, by rw [← HN.out], by rw [← HN.out]; exact hk1, hk2, by rw [← HN.out]; exact hO2.base (by rw [← HS.out]; have := HBS.out; omega), hF2⟩, by rw [← HS.out]; exact Below.set2G HBW.out (Nat.le_succ _) _ _⟩
end Go.Proofs.YtpfjecjfooefoaaDoor
/- Right messages are small, plain. -/

namespace Go.Proofs.YtpfjecjfooefoaaDoor
open Go.RowKit

set_option maxRecDepth 100000 in
theorem RightM.up2 {t : Int} {l : List Fl} (h : RightM t l) : ∀ j (hj : j < l.length), (2 : Int) + (j : Int) ≤ l[j].1
  | 0, hj => by
    have := (fk_bd (fits_some (h.2 0 hj).1).1).1
    omega
  | j + 1, hj => by
    have h1 := RightM.up2 h j (by omega)
    have h2 := (h.2 (j + 1) hj).2 (by omega)
    have e : l[j + 1 - 1] = l[j] := rfl
    rw [e] at h2
    omega
set_option maxRecDepth 100000 in
theorem RightM.ok {t : Int} {l : List Fl} (h : RightM t l) : OkM l := by
  refine ⟨?_, fun x hx => ?_, fun x hx => ?_⟩
  · rcases Nat.eq_zero_or_pos l.length with h0 | h0
    · omega
    · have h1 := h.up2 (l.length - 1) (by omega)
      have h2 := (fk_bd (fits_some (h.2 (l.length - 1) (by omega)).1).1).2.1
      omega
  · obtain ⟨j, hj, rfl⟩ := List.getElem_of_mem hx
    have h2 := fk_bd (fits_some (h.2 j hj).1).1
    omega
  · obtain ⟨j, hj, rfl⟩ := List.getElem_of_mem hx
    obtain ⟨-, -, h3, -, h5⟩ := fits_some (h.2 j hj).1
    omega
set_option maxRecDepth 100000 in
theorem RightM.tb {t : Int} {l : List Fl} (h : RightM t l) : I64b t := by
  have := typeF_bd h.1
  unfold I64b
  omega
set_option maxRecDepth 100000 in
theorem RightM.upF {t : Int} {l : List Fl} (h : RightM t l) : UpF l := (rightM_iff.1 h).2.2
end Go.Proofs.YtpfjecjfooefoaaDoor
/- field's shapes: between and its closure, shapeOf, mayBe. -/

namespace Go.Proofs.YtpfjecjfooefoaaDoor
open Go.RowKit

/-- from which sign to which -/
def loF (k : Nat) : UInt8 := if k ≤ 2 then 48 else if k ≤ 5 then 32 else 0
def hiF (k : Nat) : UInt8 := if k ≤ 2 then 57 else if k ≤ 5 then 126 else 255
set_option maxRecDepth 100000 in
theorem sgn_may (k : Nat) (c : UInt8) : (decide ((loF k).toNat ≤ c.toNat) && decide (c.toNat ≤ (hiF k).toNat)) = sgnF k c := by
  unfold loF hiF sgnF
  by_cases h : k ≤ 2
  · rw [if_pos h, if_pos h, if_pos h]; rfl
  · by_cases h5 : k ≤ 5
    · rw [if_neg h, if_neg h, if_neg h, if_pos h5, if_pos h5, if_pos h5]; rfl
    · rw [if_neg h, if_neg h, if_neg h, if_neg h5, if_neg h5, if_neg h5]
      have := c.toNat_lt
      rw [decide_eq_true (show (0 : UInt8).toNat ≤ c.toNat from Nat.zero_le _), decide_eq_true (show c.toNat ≤ (255 : UInt8).toNat from by show c.toNat ≤ 255; omega)]
      rfl
/-- the closure whose bounds lie in the blocks g and g + 1 -/
def mayV (g : Nat) : Value := .func (.func 108) #[] #[.pointer (some ⟨g, 0, none⟩), .pointer (some ⟨g + 1, 0, none⟩)]
def MayC (w : World) (g : Nat) (lo hi : UInt8) : Prop := w.heap[g]? = some (.cells #[.int .u8 (lo.toNat : Int)] 5 (0, 0)) ∧ w.heap[g + 1]? = some (.cells #[.int .u8 (hi.toNat : Int)] 5 (0, 0))
set_option maxRecDepth 100000 in
theorem MayC.old {w w' : World} {g : Nat} {lo hi : UInt8} {B : Nat} (h : MayC w g lo hi) (hb : Below B w w') (hB : w.heap.size ≤ B) : MayC w' g lo hi := ⟨old5 h.1 hb hB, old5 h.2 hb hB⟩
set_option maxRecDepth 100000 in
theorem cells1 {w : World} {g : Nat} {x : Value} {t : TypeId} {fr : Nat × Nat} (h : w.heap[g]? = some (.cells #[x] t fr)) : w.cell? ⟨g, 0, none⟩ = some x :=
  (cell_of_row _ _ _ _ _ _ h).trans rfl

set_option maxRecDepth 100000 in
theorem between_any (lo hi : UInt8) (W : World) :
    Calls Tryd.prog 100 #[.int .u8 (lo.toNat : Int), .int .u8 (hi.toNat : Int)] W fun e W' => (e = .returned (mayV W.heap.size) ∧ MayC W' W.heap.size lo hi) ∧ Below W.heap.size W W' := by
  have h1 := heap_alloc_new W (.cells #[.int .u8 (lo.toNat : Int)] 5)
  have h2 := heap_alloc_new (W.alloc (.cells #[.int .u8 (lo.toNat : Int)] 5)) (.cells #[.int .u8 (hi.toNat : Int)] 5)
  have h3 := heap_alloc_old (W.alloc (.cells #[.int .u8 (lo.toNat : Int)] 5)) (.cells #[.int .u8 (hi.toNat : Int)] 5) (show W.heap.size < (W.alloc (.cells #[.int .u8 (lo.toNat : Int)] 5)).heap.size by rw [World.size_alloc]; omega)
  rw [h1] at h3
  rw [World.size_alloc] at h2
  have HM := Lib.hid (show MayC ((W.alloc (.cells #[.int .u8 (lo.toNat : Int)] 5)).alloc (.cells #[.int .u8 (hi.toNat : Int)] 5)) W.heap.size lo hi from ⟨h3, h2⟩)
  have HB := Lib.hid (((Below.refl W.heap.size W).alloc (Nat.le_refl _) (.cells #[.int .u8 (lo.toNat : Int)] 5)).alloc (by rw [World.size_alloc]; omega) (.cells #[.int .u8 (hi.toNat : Int)] 5))
  clear h1 h2 h3
  go_enter Tryd.func100, Tryd.ntmps100
  go_wp2
  go_ret
  exact ⟨⟨rfl, HM.out⟩, HB.out⟩

set_option maxRecDepth 100000 in
theorem may_any (lo hi c : UInt8) (g : Nat) (W : World) (hM : MayC W g lo hi) :
    Calls Tryd.prog 108 #[.int .u8 (c.toNat : Int), .pointer (some ⟨g, 0, none⟩), .pointer (some ⟨g + 1, 0, none⟩)] W fun e W' => e = .returned (.bool (decide (lo.toNat ≤ c.toNat) && decide (c.toNat ≤ hi.toNat))) ∧ W = W' := by
  have c0 := cells1 hM.1
  have c1 := cells1 hM.2
  clear hM
  generalize lo.toNat = l at *
  generalize hi.toNat = h at *
  generalize c.toNat = x at *
  by_cases h1 : l ≤ x
  · have h1i : (l : Int) ≤ (x : Int) := by omega
    rw [decide_eq_true h1]
    by_cases h2 : x ≤ h
    · have h2i : (x : Int) ≤ (h : Int) := by omega
      rw [decide_eq_true h2]
      go_enter Tryd.func108, Tryd.ntmps108
      go_wp2
      go_ret
      exact ⟨rfl, rfl⟩
    · have h2i : ¬ (x : Int) ≤ (h : Int) := by omega
      rw [decide_eq_false h2]
      go_enter Tryd.func108, Tryd.ntmps108
      go_wp2
      go_ret
      exact ⟨rfl, rfl⟩
  · have h1i : ¬ (l : Int) ≤ (x : Int) := by omega
    rw [decide_eq_false h1]
    go_enter Tryd.func108, Tryd.ntmps108
    go_wp2
    go_ret
    exact ⟨rfl, rfl⟩
end Go.Proofs.YtpfjecjfooefoaaDoor
/- The table of fields in memory: what the card's condition tells, and what each call reads of it. -/

namespace Go.Proofs.YtpfjecjfooefoaaDoor
open Go.ChangeShapes Go.WideShapes Go.ChangeAt Go.RowKit

set_option maxRecDepth 100000 in
theorem at_list5 {P : Program} {ops : Array Oper} {rest : List Oper} {o : Oper} {a : Act} {w : World} {Q : Exit → Act → World → Prop} (h : wpList P ops Q (o :: rest) a w) : wpList P ops Q (o :: rest) a w := h
/-- a field, its kind, its length -/
def rowsT : List (Nat × Nat × Nat) := [(2, 2, 19), (3, 1, 6), (4, 1, 12), (7, 1, 10), (11, 1, 6), (12, 1, 6), (13, 1, 4), (14, 1, 4), (15, 1, 6), (18, 1, 4), (22, 1, 3), (25, 1, 2), (32, 2, 11), (35, 4, 37), (37, 3, 12), (38, 3, 6), (39, 3, 2), (41, 3, 8), (42, 3, 15), (48, 5, 400), (49, 1, 3), (52, 6, 8), (53, 1, 16), (54, 5, 120), (55, 7, 255), (64, 6, 8), (70, 1, 3), (90, 1, 42), (95, 3, 42), (96, 6, 8), (100, 2, 11), (102, 4, 28), (127, 7, 400), (128, 6, 8)]
def csT : List Value := rowsT.flatMap fun r => [.int .i64 r.1, .int .i64 r.2.1, .int .i64 r.2.2]
set_option maxRecDepth 100000 in
theorem csT_len : csT.length = 102 := by decide
/-- the table lies in block 0 -/
def Tb (w : World) : Prop := ∃ t fr, w.heap[0]? = some (.cells csT.toArray t fr)
set_option maxRecDepth 100000 in
theorem Tb.pos {w : World} (h : Tb w) : 0 < w.heap.size := by
  obtain ⟨t, fr, h⟩ := h
  exact (Array.getElem?_eq_some_iff.1 h).1
set_option maxRecDepth 100000 in
theorem Tb.below {w w' : World} (h : Tb w) (hb : Below w.heap.size w w') : Tb w' := by
  have h0 := h.pos
  obtain ⟨t, fr, h⟩ := h
  exact ⟨t, fr, (hb.block 0 h0).trans h⟩

set_option maxRecDepth 100000 in
theorem row_cells {H : Type} {enc : TypeId × Value → H} {w : World} {base : Nat} {sp : Nat → Bool} {held : Bool} {fuel : Nat} {cs : List Value} {x : DataW H × List MemPlace} {a b c : Int}
    (h : DataW.trod enc Tryd.prog w base sp held fuel 135 cs = some x) (hx : x.1 = .agg [.lit (.int .i64 a), .agg [.lit (.int .i64 b), .lit (.int .i64 c)]]) : cs = [.int .i64 a, .int .i64 b, .int .i64 c] := by
  have c3 : Tryd.prog.cellsOf 3 = 1 := by kernel_rfl
  have c25 : Tryd.prog.cellsOf 95 = 2 := by kernel_rfl
  have c53 : Tryd.prog.cellsOf 135 = 3 := by kernel_rfl
  obtain ⟨y0, y1, n, rfl, hl, h0, h1⟩ := trod_struct2 Tryd.underlying135 h
  rw [c53] at hl
  dsimp only at h0 h1
  rw [c3] at h0
  rw [c25] at h1
  obtain ⟨z0, e0, rfl, -⟩ := DataW.trod_int Tryd.underlying3 h0
  obtain ⟨u0, u1, m, rfl, hl1, g0, g1⟩ := trod_struct2 Tryd.underlying95 h1
  dsimp only at g0 g1
  rw [c3] at g0 g1
  obtain ⟨z1, e1, rfl, -⟩ := DataW.trod_int Tryd.underlying3 g0
  obtain ⟨z2, e2, rfl, -⟩ := DataW.trod_int Tryd.underlying3 g1
  match cs, hl with
  | [p, q, r], _ =>
    simp at hx e0 e1 e2
    obtain ⟨rfl, rfl, rfl⟩ := hx
    rw [e0, e1, e2]

abbrev laid1 : List (String × DataW Unit) := [("yett/field.rows", Rows.laid_yett_field_rows)]
set_option maxRecDepth 100000 in
theorem door_met (os : Os) (args : Array Value) : laidMetH Tryd.prog laid1 ((World.doorLaid Tryd.prog 100 os).forCall (fun _ _ => 0) ⟨#[], args, []⟩).memory :=
  laidMetH_of_parts3 (fuel := 8) (laidMet_of_run' 8 (by kernel_rfl) (by kernel_rfl)) (by kernel_rfl) (by kernel_rfl)
set_option maxRecDepth 100000 in
theorem gRows : Tryd.prog.globalNamed "yett/field.rows" = some 0 := by kernel_rfl
set_option maxRecDepth 100000 in
theorem tRows : (Tryd.prog.globals[0]?).map (·.type) = some 136 := by kernel_rfl
set_option maxRecDepth 100000 in
theorem rowsData : (Rows.laid_yett_field_rows : DataW Unit) = .agg (rowsT.map fun r => .agg [.lit (.int .i64 r.1), .agg [.lit (.int .i64 r.2.1), .lit (.int .i64 r.2.2)]]) := by kernel_rfl
set_option maxRecDepth 100000 in
theorem flat_get (f : Nat × Nat × Nat → List Value) (hf : ∀ r, (f r).length = 3) : ∀ (l : List (Nat × Nat × Nat)) (cs : List Value), cs.length = l.length * 3 → (∀ i r, l[i]? = some r → (cs.drop (i * 3)).take 3 = f r) → cs = l.flatMap f
  | [], cs, hl, _ => by
    have : cs = [] := List.eq_nil_of_length_eq_zero (by simpa using hl)
    rw [this]; rfl
  | r :: l, cs, hl, h => by
    have h0 := h 0 r rfl
    rw [Nat.zero_mul, List.drop_zero] at h0
    have ih := flat_get f hf l (cs.drop 3) (by rw [List.length_drop, hl, List.length_cons]; omega) (fun i x hx => by
      have h1 := h (i + 1) x (by simpa using hx)
      rw [List.drop_drop]
      rw [show 3 + i * 3 = (i + 1) * 3 by omega]
      exact h1)
    rw [List.flatMap_cons, ← ih, ← h0]
    exact (List.take_append_drop 3 cs).symm
set_option maxRecDepth 100000 in
theorem tb_of_laid {W : World} (h : laidMetH Tryd.prog laid1 W) : Tb W := by
  rw [MakeChecks.laidMetH_plain _ _ _ (by kernel_rfl)] at h
  obtain ⟨ps, ⟨g0, t0, cs0, f0, p0, q0, hg0, ht0, hv0, hd0, _, _⟩, _, _⟩ := h
  obtain rfl := Option.some.inj (gRows.symm.trans hg0)
  obtain rfl := Option.some.inj (tRows.symm.trans ht0)
  rw [rowsData] at hd0
  obtain ⟨xs, m, -, hx, hl, hxl, hel⟩ := DataW.trod_array Tryd.underlying136 hd0
  have c53 : Tryd.prog.cellsOf 135 = 3 := by kernel_rfl
  have c54 : Tryd.prog.cellsOf 136 = 102 := by kernel_rfl
  rw [c53] at hel
  rw [c54] at hl
  have hx1 : xs.map (·.1) = rowsT.map fun r => (.agg [.lit (.int .i64 r.1), .agg [.lit (.int .i64 r.2.1), .lit (.int .i64 r.2.2)]] : DataW Unit) := by
    have := congrArg Prod.fst hx
    simpa using this.symm
  have hcs : cs0.toList = csT := by
    refine flat_get _ (fun r => rfl) rowsT cs0.toList (by rw [hl]; rfl) (fun i r hr => ?_)
    have hi : i < 34 := by
      have := (List.getElem?_eq_some_iff.1 hr).1
      exact this
    have h1 := hel i hi
    have h2 := congrArg (·[i]?) hx1
    simp only [List.getElem?_map, hr, Option.map_some] at h2
    cases hxi : xs[i]? with
    | none => rw [hxi] at h2; cases h2
    | some y =>
      rw [hxi] at h1 h2
      exact row_cells h1 (by simpa using h2)
  simp only [World.var?, gRows, Option.bind_some] at hv0
  split at hv0
  · rename_i cs1 t1 fr1 hg1
    obtain rfl := Option.some.inj hv0
    refine ⟨t1, fr1, ?_⟩
    rw [← hcs, Array.toArray_toList]
    exact hg1
  · cases hv0
end Go.Proofs.YtpfjecjfooefoaaDoor
