
/- field.Fits, field.Write. -/
import Derived.Test.YtpfjecjfooefoaaDoorJ32
import Derived.Deep.RegionHeld3
import Derived.Test.YtpfjecjfooefoaaDoorJ29
namespace Go.Proofs.YtpfjecjfooefoaaDoor
open Go.RowKit

set_option maxRecDepth 100000 in
theorem form_1 {no : Int} (h : ¬ fk no = 0) : 1 ≤ fk no ∧ fk no ≤ 7 := by rcases form_bd no with h1 | h1 <;> omega

set_option maxRecDepth 100000 in
theorem fFits_any (no : Int) (A : Option Addr) (v : List UInt8) (c : Nat) (W : World) (hl : v.length ≤ 1000) (hr : Rd W W.heap.size A v) (hT : Tb W) :
    Calls Tryd.prog 48 #[.int .i64 no, .slice A v.length c] W fun e W' => e = .returned (.bool (fitsF no v)) ∧ Below W.heap.size W W' := by
  have CO := Lib.hid (fOf_any no W hT)
  by_cases hk : fk no = 0
  · rw [fits_none hk]
    have e0 : decide (fk no ≠ 0) = false := decide_eq_false (by omega)
    rw [e0] at CO
    clear e0 hk hr hT
    generalize fk no = k at *
    generalize fl no = n at *
    generalize v.length = m at *
    go_enter Tryd.func48, Tryd.ntmps48
    go_wp2_with fail
    refine CO.out.mono ?_
    rintro e w1 ⟨rfl, hb⟩
    have HB := Lib.hid (hb.alloc hb.size (.cells #[.int .i64 (k : Int), .int .i64 (n : Int)] 95))
    clear hb CO
    go_wp2
    go_ret
    exact ⟨rfl, HB.out⟩
  · have e0 : decide (fk no ≠ 0) = true := decide_eq_true hk
    rw [e0] at CO
    have CF := Lib.hid (fun w (h : Below W.heap.size W w) => fits5_any (fk no) (fl no) A v c (form_1 hk).1 (form_1 hk).2 w (by omega) ((hr.below h (Nat.le_refl _)).more h.size))
    have HU := Lib.hid (show fitF (fk no) (fl no) v = fitsF no v from rfl)
    rw [HU.out] at CF
    clear HU hr hT e0 hk
    generalize fitsF no v = X at *
    generalize fk no = k at *
    generalize fl no = n at *
    generalize v.length = m at *
    go_enter Tryd.func48, Tryd.ntmps48
    go_wp2_with fail
    refine CO.out.mono ?_
    rintro e w1 ⟨rfl, hb⟩
    have HB2 := Lib.hid (hb.alloc hb.size (.cells #[.int .i64 (k : Int), .int .i64 (n : Int)] 95))
    clear hb CO
    go_wp2_with fail
    refine (CF.out _ HB2.out).mono ?_
    rintro e w2 ⟨rfl, hb⟩
    have HB3 := Lib.hid (bel5 HB2.out hb HB2.out.size)
    clear hb CF HB2
    go_wp2
    go_ret
    exact ⟨rfl, HB3.out⟩

set_option maxRecDepth 100000 in
theorem concat2_any (A B : Option Addr) (us vs : List UInt8) (n m c d : Nat) (w : World) (hn : n = us.length) (hm : m = vs.length) (h0 : 0 < n + m) (hle : n ≤ 10000) (hle2 : m ≤ 10000) (hr : Rd w w.heap.size A us) (hs : Rd w w.heap.size B vs) :
    Calls Tryd.prog 40 #[.slice (some ⟨w.heap.size, 0, none⟩) 2 2] (w.alloc (.cells #[.slice A n c, .slice B m d] 27)) fun e w' => AnsB5 w' e (us ++ vs) (n + m) ∧ Below w.heap.size w w' := by
  have ha := (Below.refl w.heap.size w).alloc (Nat.le_refl _) (.cells #[.slice A n c, .slice B m d] 27)
  exact (concat5_any w.heap.size A B us vs n m c d _ hn hm h0 hle hle2 (heap_alloc_new w _) ((hr.below ha (Nat.le_refl _)).more ha.size) ((hs.below ha (Nat.le_refl _)).more ha.size)).mono fun e w' h => ⟨h.1, bel5 ha h.2 ha.size⟩

set_option maxRecDepth 100000 in
set_option maxHeartbeats 4000000 in
theorem fWrite_any (no : Int) (A : Option Addr) (v : List UInt8) (c : Nat) (W : World) (hl : v.length ≤ 1000) (hc : v.length ≤ c) (hcm : c ≤ 9223372036854775807) (hr : Rd W W.heap.size A v) (hT : Tb W) :
    Calls Tryd.prog 41 #[.int .i64 no, .slice A v.length c] W fun e W' => Ans W' e (writeL no v) (writeL no v).length (.int .i64 (writeE no v)) ∧ Below W.heap.size W W' := by
  have CO := Lib.hid (fOf_any no W hT)
  by_cases hk : fk no = 0
  · have hw : writeL no v = [] := by unfold writeL; rw [fits_none hk]; rfl
    have he : writeE no v = 12 := by unfold writeE; rw [if_pos hk]
    have e0 : decide (fk no ≠ 0) = false := decide_eq_false (by omega)
    rw [hw, he]
    rw [e0] at CO
    clear e0 hk hr hT hw he
    generalize fk no = k at *
    generalize fl no = n at *
    generalize v.length = m at *
    go_enter Tryd.func41, Tryd.ntmps41
    go_wp2_with fail
    refine CO.out.mono ?_
    rintro e w1 ⟨rfl, hb⟩
    have HB := Lib.hid (hb.alloc hb.size (.cells #[.int .i64 (k : Int), .int .i64 (n : Int)] 95))
    clear hb CO
    go_wp2
    go_ret2
    exact ⟨⟨none, 0, rfl, Nat.le_refl _, by omega, Rd.nil⟩, HB.out⟩
  have e0 : decide (fk no ≠ 0) = true := decide_eq_true hk
  rw [e0] at CO
  have CF := Lib.hid (fun w (h : Below W.heap.size W w) => fits5_any (fk no) (fl no) A v c (form_1 hk).1 (form_1 hk).2 w (by omega) ((hr.below h (Nat.le_refl _)).more h.size))
  rw [show fitF (fk no) (fl no) v = fitsF no v from rfl] at CF
  by_cases hf : fitsF no v = true
  · have hw : writeL no v = headF (fk no) v.length ++ bodyF (fk no) v := by unfold writeL; rw [if_pos hf]; rfl
    have he : writeE no v = 0 := by unfold writeE; rw [if_neg hk, if_pos hf]
    obtain ⟨-, hn1, hn2, hm1, hm2⟩ := fits_some hf
    have hlen : (headF (fk no) v.length).length = (cntF (fk no) + 1) / 2 := head_length _ _
    have hlen2 : (bodyF (fk no) v).length = sizeF (fk no) v.length := body_length _ _
    have hsz : 1 ≤ sizeF (fk no) v.length ∧ sizeF (fk no) v.length ≤ v.length := by unfold sizeF; split <;> omega
    have hcn := cnt_le (fk no)
    have CS := Lib.hid (fun w => shapeOf_any (fk no) (form_1 hk).1 (form_1 hk).2 w)
    have CC := Lib.hid (fun g w => count5_any (fk no) v.length g (fun h => cnt_room hf h) (by omega) w)
    have CI := Lib.hid (fun g w (h : Rd w w.heap.size A v) => itself5_any (fk no) g A v c (fun h2 => fit_fig (k := fk no) (n := fl no) hf h2) w (by omega) hc hcm h)
    have CX := Lib.hid (fun (A1 A2 : Option Addr) c1 c2 w h1 h2 => concat2_any A1 A2 (headF (fk no) v.length) (bodyF (fk no) v) _ _ c1 c2 w rfl rfl (by omega) (by omega) (by omega) h1 h2)
    have R0 := Lib.hid (fun w (h : Below W.heap.size W w) => (hr.below h (Nat.le_refl _)).more h.size)
    rw [hf] at CF
    rw [hw, he, List.length_append]
    unfold shV mayV at CS CC CI
    clear hw he hn1 hn2 hm1 hm2 hlen hlen2 hsz hcn hf hT hr e0 hk
    generalize decide (fk no ≤ 2) = P at *
    generalize headF (fk no) v.length = H at *
    generalize bodyF (fk no) v = Bd at *
    generalize loF (fk no) = lo at *
    generalize hiF (fk no) = hi at *
    generalize cntF (fk no) = L at *
    generalize fk no = k at *
    generalize fl no = n at *
    generalize H.length = N1 at *
    generalize Bd.length = N2 at *
    generalize v.length = m at *
    go_enter Tryd.func41, Tryd.ntmps41
    go_wp2_with fail
    refine CO.out.mono ?_
    rintro e w1 ⟨rfl, hb⟩
    have hb2 := hb.alloc hb.size (.cells #[.int .i64 (k : Int), .int .i64 (n : Int)] 95)
    have HF := Lib.hid (heap_alloc_new w1 (.cells #[.int .i64 (k : Int), .int .i64 (n : Int)] 95))
    obtain ⟨V1, hV1⟩ : ∃ V, V = w1.alloc (.cells #[.int .i64 (k : Int), .int .i64 (n : Int)] 95) := ⟨_, rfl⟩
    rw [← hV1] at hb2 HF
    have HB1 := Lib.hid hb2
    have HV1 := Lib.hid hV1
    clear hb CO hb2 hV1
    go_wp2_with fail
    rw [← HV1.out]
    refine (CF.out _ HB1.out).mono ?_
    rintro e w2 ⟨rfl, hb⟩
    have HB2 := Lib.hid (bel5 HB1.out hb HB1.out.size)
    have HF2 := Lib.hid (old5 HF.out hb (Nat.le_refl _))
    clear hb CF HB1 HF HV1
    obtain ⟨f0, f1⟩ := cells2 HF2.out
    go_wp2_with fail
    refine (CS.out w2).mono ?_
    rintro e w3 ⟨⟨g, rfl, -⟩, hb⟩
    have hb3 := bel5 HB2.out hb HB2.out.size
    have HF3 := Lib.hid (old5 HF2.out hb (Nat.le_refl _))
    obtain ⟨V, hV, hbV, hS⟩ := box_shape w3 L P (.func (.func 108) #[] #[.pointer (some ⟨g, 0, none⟩), .pointer (some ⟨g + 1, 0, none⟩)])
    have HBV := Lib.hid (bel5 hb3 hbV hb3.size)
    have HS := Lib.hid hS
    have HV := Lib.hid hV
    clear f0 f1 hb hb3 hbV hS hV HB2 HF2 CS HF3
    go_wp2_with (with_reducible refine at_list5 ?_; refine storeS _ (.tmp 8) (.tmp 22) w3.heap.size (.int .i64 (L : Int)) (.bool P) (.func (.func 108) #[] #[.pointer (some ⟨g, 0, none⟩), .pointer (some ⟨g + 1, 0, none⟩)]) #[.int .i64 0, .bool false, .nilFunc] (by exact heap_alloc_new w3 _) rfl (by simp [Value.oneCell']) rfl rfl rfl rfl ?_; rw [foldS, ← HV.out])
    obtain ⟨s, hs⟩ : ∃ s, s = w3.heap.size := ⟨_, rfl⟩
    rw [← hs] at HS ⊢
    clear hs HV
    have BB0 := Lib.hid ((Below.refl V.heap.size V).drew)
    have KEEP := Lib.hid (fun w' (h : Below V.heap.size V w') => (show Below V.heap.size V w' ∧ w'.cell? ⟨s, 0, none⟩ = some (.int .i64 (L : Int)) ∧ w'.cell? ⟨s, 1, none⟩ = some (.bool P) ∧ w'.cell? ⟨s, 2, none⟩ = some (.func (.func 108) #[] #[.pointer (some ⟨g, 0, none⟩), .pointer (some ⟨g + 1, 0, none⟩)]) from
      ⟨h, cellsS (old5 HS.out h (Nat.le_refl _))⟩))
    have RV := Lib.hid (fun w' (h : Below V.heap.size V w') => R0.out w' (bel5 HBV.out h HBV.out.size))
    clear R0 HS
    go_region_held3 (fun w' => Below V.heap.size V w' ∧ w'.cell? ⟨s, 0, none⟩ = some (.int .i64 (L : Int)) ∧ w'.cell? ⟨s, 1, none⟩ = some (.bool P) ∧ w'.cell? ⟨s, 2, none⟩ = some (.func (.func 108) #[] #[.pointer (some ⟨g, 0, none⟩), .pointer (some ⟨g + 1, 0, none⟩)]))
      (first | with_reducible exact KEEP.out _ BB0.out | with_reducible exact KEEP.out _ BB1.out | with_reducible exact KEEP.out _ BB2.out | with_reducible exact KEEP.out _ (BB2.out.alloc BB2.out.size _) | with_reducible exact KEEP.out _ BB3.out)
      (first
      | (go_at_call 77; refine (CC.out g _).mono ?_; rintro e wa ⟨⟨A1, c1, rfl, a1, a2, a3⟩, hb⟩; have BB1 := Lib.hid (bel5 BB0.out hb (by exact Nat.le_refl _)); have R1 := Lib.hid a3; clear hb a1 a2 a3)
      | (go_at_call 78; refine (CI.out g _ (RV.out _ BB1.out)).mono ?_; rintro e wb ⟨⟨A2, c2, rfl, a1, a2, a3⟩, hb⟩; have BB2 := Lib.hid (bel5 BB1.out hb BB1.out.size); have R1' := Lib.hid ((R1.out.below hb (Nat.le_refl _)).more hb.size); have R2 := Lib.hid a3; clear hb a1 a2 a3)
      | (go_at_call 40; refine (CX.out A1 A2 c1 c2 _ R1'.out R2.out).mono ?_; rintro e wc ⟨⟨A3, c3, rfl, a1, a2, a3⟩, hb⟩; have BB3 := Lib.hid (bel5 BB2.out hb BB2.out.size); have R3 := Lib.hid a3; clear hb a3))
    all_goals
      go_wp2_with fail
      go_ret2
      exact ⟨⟨A3, c3, rfl, a1, a2, R3.out⟩, bel5 HBV.out BB3.out HBV.out.size⟩
  · have hw : writeL no v = [] := by unfold writeL; rw [if_neg hf]
    have he : writeE no v = 1 := by unfold writeE; rw [if_neg hk, if_neg hf]
    rw [hw, he]
    rw [show fitsF no v = false by simpa using hf] at CF
    clear e0 hk hr hT hw he hf
    generalize fk no = k at *
    generalize fl no = n at *
    generalize v.length = m at *
    go_enter Tryd.func41, Tryd.ntmps41
    go_wp2_with fail
    refine CO.out.mono ?_
    rintro e w1 ⟨rfl, hb⟩
    have HB1 := Lib.hid (hb.alloc hb.size (.cells #[.int .i64 (k : Int), .int .i64 (n : Int)] 95))
    clear hb CO
    go_wp2_with fail
    refine (CF.out _ HB1.out).mono ?_
    rintro e w2 ⟨rfl, hb⟩
    have HB2 := Lib.hid (bel5 HB1.out hb HB1.out.size)
    clear hb CF HB1
    go_wp2
    go_ret2
    exact ⟨⟨none, 0, rfl, Nat.le_refl _, by omega, Rd.nil⟩, HB2.out⟩
end Go.Proofs.YtpfjecjfooefoaaDoor
/- Package iso: Get, Drop, Set. -/

namespace Go.Proofs.YtpfjecjfooefoaaDoor
open Go.ChangeShapes Go.WideShapes Go.ChangeAt Go.RowKit

set_option maxRecDepth 100000 in
theorem FindP.none {l : List Fl} {no : Int} {i : Nat} (h : FindP l no i false) (hu : UpF l) : getL l no = [] ∧ getY l no = false := by
  refine get_no no l (fun x hx => ?_)
  rw [← List.take_append_drop i l, List.mem_append] at hx
  rcases hx with hx | hx
  · obtain ⟨j, hj, h1, rfl⟩ := mem_take hx
    have := h.lo j hj h1
    omega
  · rw [h.drop_no hu] at hx
    have := (List.mem_filter.1 hx).2
    have := of_decide_eq_true this
    omega
set_option maxRecDepth 100000 in
theorem FindP.some {l : List Fl} {no : Int} {i : Nat} (h : FindP l no i true) : ∃ hi : i < l.length, getL l no = l[i].2 ∧ getY l no = true := by
  obtain ⟨hi, he⟩ := h.at_.1 rfl
  refine ⟨hi, getL_at l no i hi he (fun j hj h1 => by have := h.lo j hj h1; omega), ?_⟩
  unfold getY
  rw [List.any_eq_true]
  exact ⟨l[i], List.getElem_mem _, decide_eq_true he⟩

set_option maxRecDepth 100000 in
set_option maxHeartbeats 4000000 in
theorem iGet_any (t : Int) (A : Option Addr) (l : List Fl) (c : Nat) (no : Int) (W : World) (hR : RightM t l) (_hc : l.length ≤ c) (_hcm : c ≤ 9223372036854775807) (hr : RdF W W.heap.size A l) (_hn : I64b no) (_hT : Tb W) :
    Calls Tryd.prog 30 #[.agg #[.int .i64 t, .slice A l.length c], .int .i64 no] W fun e W' => Ans W' e (getL l no) (getL l no).length (.bool (getY l no)) ∧ Below W.heap.size W W' := by
  obtain ⟨G, hG⟩ : ∃ G, G = getL l no := ⟨_, rfl⟩
  obtain ⟨Y, hY⟩ : ∃ Y, Y = getY l no := ⟨_, rfl⟩
  rw [← hG, ← hY]
  have HGY := Lib.hid (show G = getL l no ∧ Y = getY l no from ⟨hG, hY⟩)
  clear hG hY
  have hb := (Below.refl W.heap.size W).alloc (Nat.le_refl _) (.cells #[.int .i64 t, .slice A l.length c] 24)
  have hg := heap_alloc_new W (.cells #[.int .i64 t, .slice A l.length c] 24)
  have hok := hR.ok
  have CD := Lib.hid (fun w (h : RdF w w.heap.size A l) => find_any A l c no w (by have := hok.len; omega) hR.upF h)
  have HSM := Lib.hid hok.small
  have HU := Lib.hid hR.upF
  have HL := Lib.hid hok.len
  obtain ⟨n, hn2⟩ : ∃ n, n = l.length := ⟨_, rfl⟩
  have HN := Lib.hid hn2
  rw [← hn2] at hb hg CD HL ⊢
  have CF := Lib.hid (fun w => fields_any t A n c w)
  obtain ⟨V, hV⟩ : ∃ V, V = W.alloc (.cells #[.int .i64 t, .slice A n c] 24) := ⟨_, rfl⟩
  rw [← hV] at hb hg
  have RA := Lib.hid (fun w (h : Below V.heap.size V w) => (hr.go hb).go h)
  have HB := Lib.hid hb
  have HG := Lib.hid hg
  have HV := Lib.hid hV
  obtain ⟨e0, e1⟩ := cG2 hg
  rw [hV] at e0 e1
  clear hV hb hg hr hR hok hn2 _hT _hn _hc _hcm
  go_enter Tryd.func30, Tryd.ntmps30
  go_wp2_with fail
  rw [← HV.out]
  clear HV e0 e1
  refine (CF.out _).mono ?_
  rintro e w1 ⟨rfl, hb⟩
  have HB1 := Lib.hid hb
  clear hb CF
  go_wp2_with fail
  refine (CD.out _ (RA.out _ HB1.out)).mono ?_
  rintro e w2 ⟨⟨i, b, rfl, hf⟩, hb⟩
  have HB2 := Lib.hid (belG HB1.out hb HB1.out.size)
  have HF := Lib.hid hf
  clear hb HB1 CD hf
  obtain ⟨e0, e1⟩ := cG2 (oldG HG.out HB2.out (Nat.le_refl _))
  cases b with
  | false =>
    have HZ := Lib.hid (show G = [] ∧ Y = false from ⟨HGY.out.1.trans (HF.out.none HU.out).1, HGY.out.2.trans (HF.out.none HU.out).2⟩)
    clear HF
    go_wp2
    go_ret2
    exact ⟨by rw [HZ.out.1, HZ.out.2]; exact AnsG.none, belG HB.out HB2.out HB.out.size⟩
  | true =>
    obtain ⟨hil, hz1, hz2⟩ := HF.out.some
    obtain ⟨b1, o1, A1, c1, rfl, hb1, x1, y1, q1, q2, q3⟩ := (RA.out _ HB2.out).at_ hil
    have CB := Lib.hid (clone5_any A1 l[i].2 c1 w2 (by have := HSM.out _ (List.getElem_mem hil); omega) q3)
    have HZ := Lib.hid (show G = l[i].2 ∧ Y = true from ⟨HGY.out.1.trans hz1, HGY.out.2.trans hz2⟩)
    have hii : (i : Int) < (n : Int) := by have := HN.out; omega
    have hi0 : (0 : Int) ≤ (i : Int) := Int.natCast_nonneg _
    clear hz1 hz2 q1 q2 q3 HF HSM hb1
    generalize l[i].1 = xk at *
    generalize l[i].2 = L at *
    obtain ⟨z, hz⟩ : ∃ z, z = L.length := ⟨_, rfl⟩
    have HZL := Lib.hid hz
    rw [← hz] at CB y1
    clear hil hz
    go_wp2_with fail
    refine CB.out.mono ?_
    rintro e w3 ⟨⟨A3, c3, rfl, a1, a2, a3⟩, hb⟩
    have HB3 := Lib.hid (belG HB2.out hb HB2.out.size)
    have R3 := Lib.hid a3
    clear hb a3
    go_wp2
    go_ret2
    exact ⟨by rw [HZ.out.1, HZ.out.2, ← HZL.out]; exact ⟨A3, c3, rfl, a1, a2, R3.out⟩, belG HB.out HB3.out HB.out.size⟩

set_option maxRecDepth 100000 in
/-- a message laid into its box, its row in memory that is new since base: the row, and the bytes, stay -/
theorem boxed {w : World} {s B : Nat} {t t' : Int} {v : Value} {A : Option Addr} {n c : Nat} {us : List V2f} {l : List Fl} (hg : w.heap[s]? = some (.cells #[.int .i64 t', v] 24 (0, 0))) (hv : NoB v = true) (hsB : s < B) (ho : OwF w B (.slice A n c) us) (hf : FEs w us l) :
    (set2G w s (.int .i64 t) (.slice A n c)).heap[s]? = some (.cells #[.int .i64 t, .slice A n c] 24 (0, 0)) ∧ OwF (set2G w s (.int .i64 t) (.slice A n c)) B (.slice A n c) us ∧ FEs (set2G w s (.int .i64 t) (.slice A n c)) us l := by
  have hoth := fun k hk => set2G_other w s k (.int .i64 t) (.slice A n c) hk
  have hsz := set2G_size w s (.int .i64 t) (.slice A n c)
  have hnb : ∀ x ∈ (#[.int .i64 t', v] : Array Value).toList, NoB x = true := by
    intro x hx
    simp at hx
    rcases hx with rfl | rfl
    · rfl
    · exact hv
  exact ⟨set2G_same _ _ hg, ho.keepM hsB hoth, hf.keep (fun A l hr => Rd.keepM hr hg hnb hoth (by omega))⟩
set_option maxRecDepth 100000 in
theorem boxed1 {w : World} {s B : Nat} {t : Int} {v : Value} {A : Option Addr} {n c : Nat} {us : List V2f} {l : List Fl} (hg : w.heap[s]? = some (.cells #[.int .i64 t, v] 24 (0, 0))) (hv : NoB v = true) (hsB : s < B) (ho : OwF w B (.slice A n c) us) (hf : FEs w us l) :
    (w.setCell ⟨s, 1, none⟩ (.slice A n c)).heap[s]? = some (.cells #[.int .i64 t, .slice A n c] 24 (0, 0)) ∧ OwF (w.setCell ⟨s, 1, none⟩ (.slice A n c)) B (.slice A n c) us ∧ FEs (w.setCell ⟨s, 1, none⟩ (.slice A n c)) us l := by
  have hoth : ∀ k, k ≠ s → (w.setCell ⟨s, 1, none⟩ (.slice A n c)).heap[k]? = w.heap[k]? := fun k hk => heap_setCell_other _ _ _ _ hk
  have hsz : w.heap.size ≤ (w.setCell ⟨s, 1, none⟩ (.slice A n c)).heap.size := by simp [World.setCell]
  have hnb : ∀ x ∈ (#[.int .i64 t, v] : Array Value).toList, NoB x = true := by
    intro x hx
    simp at hx
    rcases hx with rfl | rfl
    · rfl
    · exact hv
  exact ⟨heap_setCell_same w s 1 _ _ _ hg, ho.keepM hsB hoth, hf.keep (fun A l hr => Rd.keepM hr hg hnb hoth hsz)⟩

set_option maxRecDepth 100000 in
set_option maxHeartbeats 8000000 in
theorem iDrop_any (t : Int) (A : Option Addr) (l : List Fl) (c : Nat) (no : Int) (W : World) (hR : RightM t l) (_hc : l.length ≤ c) (_hcm : c ≤ 9223372036854775807) (hr : RdF W W.heap.size A l) (_hn : I64b no) (_hT : Tb W) :
    Calls Tryd.prog 32 #[.agg #[.int .i64 t, .slice A l.length c], .int .i64 no] W fun e W' => AnsM W' e t (dropF l no) ∧ Below W.heap.size W W' := by
  have hok := hR.ok
  have HSM := Lib.hid hok.small
  have HU := Lib.hid hR.upF
  have HL := Lib.hid hok.len
  obtain ⟨n, hn2⟩ : ∃ n, n = l.length := ⟨_, rfl⟩
  have HN := Lib.hid hn2
  obtain ⟨V, hV, hb, g1, g2⟩ := box2 W #[.int .i64 t, .slice A n c] #[.int .i64 0, .slice none 0 0] 24 24
  have CA := Lib.hid (apart_any t A l c V (by have := hok.len; omega) (fun x hx => by have := hok.small x hx; omega) (hr.go hb))
  have CWO := Lib.hid (fun A1 c1 w h1 h2 h3 => without_any A1 l c1 no w (by have := HL.out; omega) h1 h2 HU.out h3)
  unfold AnsOwM at CA
  rw [← hn2] at CA CWO HL ⊢
  have HB := Lib.hid hb
  have HV := Lib.hid hV
  have HG1 := Lib.hid g1
  have HG2 := Lib.hid g2
  obtain ⟨e0, e1⟩ := cG2 g1
  rw [hV] at e0 e1
  clear hn2 hV hb g1 g2 hr hR hok _hT _hn _hc _hcm
  obtain ⟨R, hRr⟩ : ∃ R, R = dropF l no := ⟨_, rfl⟩
  rw [← hRr] at CWO ⊢
  clear hRr
  go_enter Tryd.func32, Tryd.ntmps32
  go_wp2_with fail
  rw [← HV.out]
  clear HV e0 e1
  refine CA.out.mono ?_
  rintro e w1 ⟨⟨A1, c1, us, rfl, p1, p2, ho, hf⟩, hb⟩
  have hgm := oldG HG1.out hb (Nat.le_refl _)
  have hgz := oldG HG2.out hb (Nat.le_refl _)
  have hsV : W.heap.size < V.heap.size := (Array.getElem?_eq_some_iff.1 HG1.out).1
  have HSZ := Lib.hid (show W.heap.size + 1 < V.heap.size from (Array.getElem?_eq_some_iff.1 HG2.out).1)
  obtain ⟨y0, y1⟩ := cG2 hgm
  have z0 := fG hgm 0
  have z1 := fG hgm 1
  obtain ⟨k1, k2, k3⟩ := boxed (t := t) hgm rfl hsV ho hf
  have hz2 := (set2G_other w1 W.heap.size (W.heap.size + 1) (.int .i64 t) (.slice A1 n c1) (by omega)).trans hgz
  have hb2 := Below.set2G (belG HB.out hb HB.out.size) (Nat.le_refl _) (.int .i64 t) (.slice A1 n c1)
  obtain ⟨W2, hW2⟩ : ∃ X, X = set2G w1 W.heap.size (.int .i64 t) (.slice A1 n c1) := ⟨_, rfl⟩
  rw [← hW2] at k1 k2 k3 hz2 hb2
  have HG1 := Lib.hid k1
  have HG2 := Lib.hid hz2
  have HB2 := Lib.hid hb2
  have RM := Lib.hid (k2.rd k3)
  have HW2 := Lib.hid hW2
  have HP := Lib.hid (show n ≤ c1 ∧ c1 ≤ 9223372036854775807 from ⟨p1, p2⟩)
  have CFI := Lib.hid (fun w => fields_any t A1 n c1 w)
  clear hb hgm hgz hsV ho hf k1 k2 k3 hz2 hb2 p1 p2 CA HB
  obtain ⟨e0, e1⟩ := cG2 HG1.out
  rw [hW2] at e0 e1
  clear hW2
  go_wp2_with fail
  change Calls _ _ _ (set2G w1 W.heap.size (.int .i64 t) (.slice A1 n c1)) _
  rw [← HW2.out]
  clear e0 e1 y0 y1 z0 z1 HW2
  refine (CFI.out _).mono ?_
  rintro e w3 ⟨rfl, hb⟩
  have HB3 := Lib.hid hb
  clear hb CFI
  go_wp2_with fail
  refine (CWO.out A1 c1 _ HP.out.1 HP.out.2 (RM.out.go HB3.out)).mono ?_
  rintro e w4 ⟨⟨A4, c4, u4, rfl, p1, p2, ho, hf⟩, hb⟩
  have hb4 := belG HB3.out hb HB3.out.size
  have hgm := oldG HG1.out hb4 (Nat.le_refl _)
  have hgz := oldG HG2.out hb4 (Nat.le_refl _)
  obtain ⟨y0, y1⟩ := cG2 hgm
  have z0 := fG hgm 0
  have z1 := fG hgm 1
  have hsB : W.heap.size + 1 < w3.heap.size := Nat.lt_of_lt_of_le (Array.getElem?_eq_some_iff.1 HG2.out).1 HB3.out.size
  obtain ⟨k1, k2, k3⟩ := boxed1 hgm rfl (show W.heap.size < w3.heap.size by omega) ho hf
  have hz5 := (heap_setCell_other w4 ⟨W.heap.size, 1, none⟩ (W.heap.size + 1) (.slice A4 R.length c4) (by show W.heap.size + 1 ≠ W.heap.size; omega)).trans hgz
  have hb5 := (belG HB2.out hb4 HB2.out.size).setCell (p := ⟨W.heap.size, 1, none⟩) (Nat.le_refl _) (.slice A4 R.length c4)
  obtain ⟨j1, j2, j3⟩ := boxed (t := t) hz5 rfl hsB k2 k3
  have hbe := Below.set2G hb5 (Nat.le_succ _) (.int .i64 t) (.slice A4 R.length c4)
  obtain ⟨e0, e1⟩ := cG2 k1
  obtain ⟨x0, x1⟩ := cG2 hz5
  have t0 := fG hz5 0
  have t1 := fG hz5 1
  have J1 := Lib.hid j1
  have J2 := Lib.hid (j2.rd j3)
  have HBE := Lib.hid hbe
  clear hb hb4 hgm hgz ho hf hsB k1 k2 k3 hz5 hb5 j1 j2 j3 hbe CWO HG1 HG2 HB2 HB3 RM
  go_wp2
  (try simp only [Exit.inBlock, Exit.then])
  refine bodyPost_ret (retM rfl _ (set2G (w4.setCell ⟨W.heap.size, 1, none⟩ (.slice A4 R.length c4)) (W.heap.size + 1) (.int .i64 t) (.slice A4 R.length c4)) (W.heap.size + 1) _ _ rfl J1.out) rfl ?_
  exact ⟨⟨A4, c4, rfl, p1, p2, J2.out⟩, HBE.out⟩
set_option maxRecDepth 100000 in
set_option maxHeartbeats 8000000 in
theorem iSet_any (t : Int) (A : Option Addr) (l : List Fl) (c : Nat) (no : Int) (B : Option Addr) (v : List UInt8) (d : Nat) (W : World) (hR : RightM t l) (_hc : l.length ≤ c) (_hcm : c ≤ 9223372036854775807) (hr : RdF W W.heap.size A l) (_hn : I64b no) (hv : v.length ≤ 1000) (_hd : v.length ≤ d) (_hdm : d ≤ 9223372036854775807) (hs : Rd W W.heap.size B v) (hT : Tb W) :
    Calls Tryd.prog 28 #[.agg #[.int .i64 t, .slice A l.length c], .int .i64 no, .slice B v.length d] W fun e W' => AnsMx W' e t (setM l no v) (setE no v) ∧ Below W.heap.size W W' := by
  have hok := hR.ok
  have HU := Lib.hid hR.upF
  have HL := Lib.hid hok.len
  obtain ⟨n, hn2⟩ : ∃ n, n = l.length := ⟨_, rfl⟩
  have HN := Lib.hid hn2
  obtain ⟨V, hV, hb, g1, g2⟩ := box2 W #[.int .i64 t, .slice A n c] #[.int .i64 0, .slice none 0 0] 24 24
  have CA := Lib.hid (apart_any t A l c V (by have := hok.len; omega) (fun x hx => by have := hok.small x hx; omega) (hr.go hb))
  have CWI := Lib.hid (fun A1 c1 D e w h1 h2 h3 h4 h5 h6 => with_any A1 l c1 no D v e w (by have := HL.out; omega) h1 h2 HU.out h3 h4 h5 h6)
  have CO := Lib.hid (fun w (h : Below W.heap.size W w) => fOf_any no w ((hT.below h)))
  have CF := Lib.hid (fun w (h : Below W.heap.size W w) => fFits_any no B v d w hv ((hs.below h (Nat.le_refl _)).more h.size) (hT.below h))
  have CC := Lib.hid (fun w (h : Below W.heap.size W w) => clone5_any B v d w (by omega) ((hs.below h (Nat.le_refl _)).more h.size))
  unfold AnsOwM at CA
  rw [← hn2] at CA CWI HL ⊢
  have HB := Lib.hid hb
  have HV := Lib.hid hV
  have HG1 := Lib.hid g1
  have HG2 := Lib.hid g2
  obtain ⟨e0, e1⟩ := cG2 g1
  rw [hV] at e0 e1
  obtain ⟨R, hRr⟩ : ∃ R, R = setM l no v := ⟨_, rfl⟩
  obtain ⟨E, hE⟩ : ∃ E, E = setE no v := ⟨_, rfl⟩
  rw [← hRr, ← hE]
  have HRR := Lib.hid hRr
  have HE := Lib.hid hE
  obtain ⟨m, hm⟩ : ∃ m, m = v.length := ⟨_, rfl⟩
  have HM := Lib.hid hm
  rw [← hm] at CWI CF CC ⊢
  clear hn2 hV hb g1 g2 hr hR hok hT _hn _hc _hcm hRr hE hv _hd _hdm hs hm
  go_enter Tryd.func28, Tryd.ntmps28
  go_wp2_with fail
  rw [← HV.out]
  clear HV e0 e1
  refine CA.out.mono ?_
  rintro e w1 ⟨⟨A1, c1, us, rfl, p1, p2, ho, hf⟩, hb⟩
  have hgm := oldG HG1.out hb (Nat.le_refl _)
  have hgz := oldG HG2.out hb (Nat.le_refl _)
  have hsV : W.heap.size < V.heap.size := (Array.getElem?_eq_some_iff.1 HG1.out).1
  have hsV2 : W.heap.size + 1 < V.heap.size := (Array.getElem?_eq_some_iff.1 HG2.out).1
  obtain ⟨y0, y1⟩ := cG2 hgm
  have z0 := fG hgm 0
  have z1 := fG hgm 1
  obtain ⟨k1, k2, k3⟩ := boxed (t := t) hgm rfl hsV ho hf
  have hz2 := (set2G_other w1 W.heap.size (W.heap.size + 1) (.int .i64 t) (.slice A1 n c1) (by omega)).trans hgz
  have hb2 := Below.set2G (belG HB.out hb HB.out.size) (Nat.le_refl _) (.int .i64 t) (.slice A1 n c1)
  obtain ⟨W2, hW2⟩ : ∃ X, X = set2G w1 W.heap.size (.int .i64 t) (.slice A1 n c1) := ⟨_, rfl⟩
  rw [← hW2] at k1 k2 k3 hz2 hb2
  have HG1 := Lib.hid k1
  have HG2 := Lib.hid hz2
  have HB2 := Lib.hid hb2
  have HO2 := Lib.hid k2
  have HF2 := Lib.hid k3
  have HW2 := Lib.hid hW2
  have HP := Lib.hid (show n ≤ c1 ∧ c1 ≤ 9223372036854775807 from ⟨p1, p2⟩)
  have HSV := Lib.hid hsV2
  clear hb hgm hgz hsV hsV2 ho hf k1 k2 k3 hz2 hb2 p1 p2 CA HB
  obtain ⟨e0, e1⟩ := cG2 HG1.out
  rw [hW2] at e0 e1
  clear hW2
  go_wp2_with fail
  change Calls _ _ _ (set2G w1 W.heap.size (.int .i64 t) (.slice A1 n c1)) _
  rw [← HW2.out]
  clear e0 e1 y0 y1 z0 z1 HW2
  by_cases hk : fk no = 0
  · have HRE := Lib.hid (show R = l ∧ E = 12 from ⟨HRR.out.trans (by unfold setM; rw [fits_none hk]; rfl), HE.out.trans (by unfold setE; rw [if_pos hk])⟩)
    rw [decide_eq_false (show ¬ fk no ≠ 0 by omega)] at CO
    clear hk CF CC CWI
    generalize fk no = kk at *
    generalize fl no = nn at *
    refine (CO.out _ HB2.out).mono ?_
    rintro e w3 ⟨rfl, hb⟩
    have hb1 := hb.alloc hb.size (.cells #[.int .i64 (kk : Int), .int .i64 (nn : Int)] 95)
    have hg1 := oldG HG1.out hb1 (Nat.le_refl _)
    have hg2 := oldG HG2.out hb1 (Nat.le_refl _)
    have hb4 := belG HB2.out hb1 HB2.out.size
    obtain ⟨j1, j2, j3⟩ := boxed (t := t) hg2 rfl HSV.out (HO2.out.call hb1) (HF2.out.go hb1)
    have hbe := Below.set2G hb4 (Nat.le_succ _) (.int .i64 t) (.slice A1 n c1)
    obtain ⟨V1, hV1⟩ : ∃ V, V = w3.alloc (.cells #[.int .i64 (kk : Int), .int .i64 (nn : Int)] 95) := ⟨_, rfl⟩
    rw [← hV1] at hg1 hg2 j1 j2 j3 hbe
    obtain ⟨e0, e1⟩ := cG2 hg1
    obtain ⟨x0, x1⟩ := cG2 hg2
    have t0 := fG hg2 0
    have t1 := fG hg2 1
    have J1 := Lib.hid j1
    have J2 := Lib.hid (j2.rd j3)
    have HBE := Lib.hid hbe
    have HV1 := Lib.hid hV1
    rw [hV1] at e0 e1 x0 x1 t0 t1
    clear hb hb1 hg1 hg2 hb4 j1 j2 j3 hbe CO HG1 HG2 HB2 HO2 HF2 hV1
    go_wp2
    rw [← HV1.out]
    (try simp only [Exit.inBlock, Exit.then])
    refine bodyPost_ret (retM2 rfl _ (set2G V1 (W.heap.size + 1) (.int .i64 t) (.slice A1 n c1)) (W.heap.size + 1) _ _ _ rfl rfl J1.out) rfl ?_
    exact ⟨by rw [HRE.out.1, HRE.out.2]; exact ⟨A1, c1, by rw [← HN.out]; rfl, by rw [← HN.out]; exact HP.out.1, HP.out.2, J2.out⟩, HBE.out⟩
  rw [decide_eq_true (show fk no ≠ 0 from hk)] at CO
  by_cases hf : ¬ fitsF no v = true
  · have HRE := Lib.hid (show R = l ∧ E = 1 from ⟨HRR.out.trans (by unfold setM; rw [if_neg hf]), HE.out.trans (by unfold setE; rw [if_neg hk, if_neg hf])⟩)
    rw [show fitsF no v = false by simpa using hf] at CF
    clear hk hf CC CWI
    generalize fk no = kk at *
    generalize fl no = nn at *
    refine (CO.out _ HB2.out).mono ?_
    rintro e w3 ⟨rfl, hb⟩
    have hb1 := hb.alloc hb.size (.cells #[.int .i64 (kk : Int), .int .i64 (nn : Int)] 95)
    obtain ⟨V1, hV1⟩ : ∃ V, V = w3.alloc (.cells #[.int .i64 (kk : Int), .int .i64 (nn : Int)] 95) := ⟨_, rfl⟩
    rw [← hV1] at hb1
    have HB3 := Lib.hid hb1
    have HV1 := Lib.hid hV1
    clear hb hb1 hV1 CO
    go_wp2_with fail
    rw [← HV1.out]
    refine (CF.out _ (belG HB2.out HB3.out HB2.out.size)).mono ?_
    rintro e w4 ⟨rfl, hb⟩
    have hb1 := belG HB3.out hb HB3.out.size
    have hg1 := oldG HG1.out hb1 (Nat.le_refl _)
    have hg2 := oldG HG2.out hb1 (Nat.le_refl _)
    have hb4 := belG HB2.out hb1 HB2.out.size
    obtain ⟨j1, j2, j3⟩ := boxed (t := t) hg2 rfl HSV.out (HO2.out.call hb1) (HF2.out.go hb1)
    have hbe := Below.set2G hb4 (Nat.le_succ _) (.int .i64 t) (.slice A1 n c1)
    obtain ⟨e0, e1⟩ := cG2 hg1
    obtain ⟨x0, x1⟩ := cG2 hg2
    have t0 := fG hg2 0
    have t1 := fG hg2 1
    have J1 := Lib.hid j1
    have J2 := Lib.hid (j2.rd j3)
    have HBE := Lib.hid hbe
    clear hb hb1 hg1 hg2 hb4 j1 j2 j3 hbe HG1 HG2 HB2 HO2 HF2 HB3 HV1
    go_wp2
    (try simp only [Exit.inBlock, Exit.then])
    refine bodyPost_ret (retM2 rfl _ (set2G w4 (W.heap.size + 1) (.int .i64 t) (.slice A1 n c1)) (W.heap.size + 1) _ _ _ rfl rfl J1.out) rfl ?_
    exact ⟨by rw [HRE.out.1, HRE.out.2]; exact ⟨A1, c1, by rw [← HN.out]; rfl, by rw [← HN.out]; exact HP.out.1, HP.out.2, J2.out⟩, HBE.out⟩
  have hf : fitsF no v = true := Classical.byContradiction hf
  have HRE := Lib.hid (show R = setL l no v ∧ E = 0 from ⟨HRR.out.trans (by unfold setM; rw [if_pos hf]), HE.out.trans (by unfold setE; rw [if_neg hk, if_pos hf])⟩)
  rw [hf] at CF
  rw [← HRE.out.1] at CWI
  have CFI := Lib.hid (fun w => fields_any t A1 n c1 w)
  clear hk hf HRR HE
  generalize fk no = kk at *
  generalize fl no = nn at *
  refine (CO.out _ HB2.out).mono ?_
  rintro e w3 ⟨rfl, hb⟩
  have hb1 := hb.alloc hb.size (.cells #[.int .i64 (kk : Int), .int .i64 (nn : Int)] 95)
  obtain ⟨V1, hV1⟩ : ∃ V, V = w3.alloc (.cells #[.int .i64 (kk : Int), .int .i64 (nn : Int)] 95) := ⟨_, rfl⟩
  rw [← hV1] at hb1
  have HB3 := Lib.hid hb1
  have HV1 := Lib.hid hV1
  clear hb hb1 hV1 CO
  go_wp2_with fail
  rw [← HV1.out]
  refine (CF.out _ (belG HB2.out HB3.out HB2.out.size)).mono ?_
  rintro e w4 ⟨rfl, hb⟩
  have HB4 := Lib.hid (belG HB3.out hb HB3.out.size)
  clear hb HB3 HV1 CF
  obtain ⟨e0, e1⟩ := cG2 (oldG HG1.out HB4.out (Nat.le_refl _))
  go_wp2_with fail
  refine (CFI.out _).mono ?_
  rintro e w5 ⟨rfl, hb⟩
  have HB5 := Lib.hid (belG HB4.out hb HB4.out.size)
  clear hb HB4 CFI e0 e1
  go_wp2_with fail
  refine (CC.out _ (belG HB2.out HB5.out HB2.out.size)).mono ?_
  rintro e w6 ⟨⟨B6, c6, rfl, a1, a2, a3⟩, hb⟩
  have HB6 := Lib.hid (belG HB5.out hb HB5.out.size)
  have R6 := Lib.hid a3
  clear hb a3 HB5 CC
  go_wp2_with fail
  refine (CWI.out A1 c1 B6 c6 _ HP.out.1 HP.out.2 ((HO2.out.rd HF2.out).go HB6.out) a1 a2 R6.out).mono ?_
  rintro e w7 ⟨⟨A4, c4, u4, rfl, p1, p2, ho, hf⟩, hb⟩
  have hb4 := belG HB6.out hb HB6.out.size
  have hgm := oldG HG1.out hb4 (Nat.le_refl _)
  have hgz := oldG HG2.out hb4 (Nat.le_refl _)
  obtain ⟨y0, y1⟩ := cG2 hgm
  have z0 := fG hgm 0
  have z1 := fG hgm 1
  have hsB : W.heap.size + 1 < w6.heap.size := Nat.lt_of_lt_of_le (Array.getElem?_eq_some_iff.1 HG2.out).1 HB6.out.size
  obtain ⟨k1, k2, k3⟩ := boxed1 hgm rfl (show W.heap.size < w6.heap.size by omega) ho hf
  have hz5 := (heap_setCell_other w7 ⟨W.heap.size, 1, none⟩ (W.heap.size + 1) (.slice A4 R.length c4) (by show W.heap.size + 1 ≠ W.heap.size; omega)).trans hgz
  have hb5 := (belG HB2.out hb4 HB2.out.size).setCell (p := ⟨W.heap.size, 1, none⟩) (Nat.le_refl _) (.slice A4 R.length c4)
  obtain ⟨j1, j2, j3⟩ := boxed (t := t) hz5 rfl hsB k2 k3
  have hbe := Below.set2G hb5 (Nat.le_succ _) (.int .i64 t) (.slice A4 R.length c4)
  obtain ⟨e0, e1⟩ := cG2 k1
  obtain ⟨x0, x1⟩ := cG2 hz5
  have t0 := fG hz5 0
  have t1 := fG hz5 1
  have J1 := Lib.hid j1
  have J2 := Lib.hid (j2.rd j3)
  have HBE := Lib.hid hbe
  clear hb hb4 hgm hgz ho hf hsB k1 k2 k3 hz5 hb5 j1 j2 j3 hbe CWI HG1 HG2 HB2 HB6 HO2 HF2
  go_wp2
  (try simp only [Exit.inBlock, Exit.then])
  refine bodyPost_ret (retM2 rfl _ (set2G (w7.setCell ⟨W.heap.size, 1, none⟩ (.slice A4 R.length c4)) (W.heap.size + 1) (.int .i64 t) (.slice A4 R.length c4)) (W.heap.size + 1) _ _ _ rfl rfl J1.out) rfl ?_
  exact ⟨by rw [HRE.out.2]; exact ⟨A4, c4, rfl, p1, p2, J2.out⟩, HBE.out⟩
end Go.Proofs.YtpfjecjfooefoaaDoor
