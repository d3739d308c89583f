
/- field.Fits, field.Write. -/
import Derived.Test.YtecdmdgpmbgaaaaDoorFldX
import Derived.Test.YtecdmdgpmbgaaaaDoorFldO
import Derived.Deep.RegionHeld3
namespace Go.Proofs.YtecdmdgpmbgaaaaDoor
open Go.RowKit

theorem form_1 {no : Int} (h : ¬ fk no = 0) : 1 ≤ fk no ∧ fk no ≤ 7 := by rcases form_bd no with h1 | h1 <;> omega

set_option maxRecDepth 100000 in
theorem fFits_any (no : Int) (A : Option Addr) (v : List UInt8) (c : Nat) (W : World) (hl : v.length ≤ 1000) (hr : Rd W W.heap.size A v) (hT : Tb W) :
    Calls Tryd.prog 15 #[.int .i64 no, .slice A v.length c] W fun e W' => e = .returned (.bool (fitsF no v)) ∧ Below W.heap.size W W' := by
  have CO := Lib.hid (fOf_any no W hT)
  by_cases hk : fk no = 0
  · rw [fits_none hk]
    have e0 : decide (fk no ≠ 0) = false := decide_eq_false (by omega)
    rw [e0] at CO
    clear e0 hk hr hT
    generalize fk no = k at *
    generalize fl no = n at *
    generalize v.length = m at *
    go_enter Tryd.func15, Tryd.ntmps15
    go_wp2_with fail
    refine CO.out.mono ?_
    rintro e w1 ⟨rfl, hb⟩
    have HB := Lib.hid (hb.alloc hb.size (.cells #[.int .i64 (k : Int), .int .i64 (n : Int)] 25))
    clear hb CO
    go_wp2
    go_ret
    exact ⟨rfl, HB.out⟩
  · have e0 : decide (fk no ≠ 0) = true := decide_eq_true hk
    rw [e0] at CO
    have CF := Lib.hid (fun w (h : Below W.heap.size W w) => fits5_any (fk no) (fl no) A v c (form_1 hk).1 (form_1 hk).2 w (by omega) ((hr.below h (Nat.le_refl _)).more h.size))
    have HU := Lib.hid (show fitF (fk no) (fl no) v = fitsF no v from rfl)
    rw [HU.out] at CF
    clear HU hr hT e0 hk
    generalize fitsF no v = X at *
    generalize fk no = k at *
    generalize fl no = n at *
    generalize v.length = m at *
    go_enter Tryd.func15, Tryd.ntmps15
    go_wp2_with fail
    refine CO.out.mono ?_
    rintro e w1 ⟨rfl, hb⟩
    have HB2 := Lib.hid (hb.alloc hb.size (.cells #[.int .i64 (k : Int), .int .i64 (n : Int)] 25))
    clear hb CO
    go_wp2_with fail
    refine (CF.out _ HB2.out).mono ?_
    rintro e w2 ⟨rfl, hb⟩
    have HB3 := Lib.hid (bel5 HB2.out hb HB2.out.size)
    clear hb CF HB2
    go_wp2
    go_ret
    exact ⟨rfl, HB3.out⟩

theorem concat2_any (A B : Option Addr) (us vs : List UInt8) (n m c d : Nat) (w : World) (hn : n = us.length) (hm : m = vs.length) (h0 : 0 < n + m) (hle : n ≤ 10000) (hle2 : m ≤ 10000) (hr : Rd w w.heap.size A us) (hs : Rd w w.heap.size B vs) :
    Calls Tryd.prog 24 #[.slice (some ⟨w.heap.size, 0, none⟩) 2 2] (w.alloc (.cells #[.slice A n c, .slice B m d] 22)) fun e w' => AnsB5 w' e (us ++ vs) (n + m) ∧ Below w.heap.size w w' := by
  have ha := (Below.refl w.heap.size w).alloc (Nat.le_refl _) (.cells #[.slice A n c, .slice B m d] 22)
  exact (concat5_any w.heap.size A B us vs n m c d _ hn hm h0 hle hle2 (heap_alloc_new w _) ((hr.below ha (Nat.le_refl _)).more ha.size) ((hs.below ha (Nat.le_refl _)).more ha.size)).mono fun e w' h => ⟨h.1, bel5 ha h.2 ha.size⟩

set_option maxRecDepth 100000 in
set_option maxHeartbeats 4000000 in
theorem fWrite_any (no : Int) (A : Option Addr) (v : List UInt8) (c : Nat) (W : World) (hl : v.length ≤ 1000) (hc : v.length ≤ c) (hcm : c ≤ 9223372036854775807) (hr : Rd W W.heap.size A v) (hT : Tb W) :
    Calls Tryd.prog 13 #[.int .i64 no, .slice A v.length c] W fun e W' => Ans W' e (writeL no v) (writeL no v).length (.int .i64 (writeE no v)) ∧ Below W.heap.size W W' := by
  have CO := Lib.hid (fOf_any no W hT)
  by_cases hk : fk no = 0
  · have hw : writeL no v = [] := by unfold writeL; rw [fits_none hk]; rfl
    have he : writeE no v = 12 := by unfold writeE; rw [if_pos hk]
    have e0 : decide (fk no ≠ 0) = false := decide_eq_false (by omega)
    rw [hw, he]
    rw [e0] at CO
    clear e0 hk hr hT hw he
    generalize fk no = k at *
    generalize fl no = n at *
    generalize v.length = m at *
    go_enter Tryd.func13, Tryd.ntmps13
    go_wp2_with fail
    refine CO.out.mono ?_
    rintro e w1 ⟨rfl, hb⟩
    have HB := Lib.hid (hb.alloc hb.size (.cells #[.int .i64 (k : Int), .int .i64 (n : Int)] 25))
    clear hb CO
    go_wp2
    go_ret2
    exact ⟨⟨none, 0, rfl, Nat.le_refl _, by omega, Rd.nil⟩, HB.out⟩
  have e0 : decide (fk no ≠ 0) = true := decide_eq_true hk
  rw [e0] at CO
  have CF := Lib.hid (fun w (h : Below W.heap.size W w) => fits5_any (fk no) (fl no) A v c (form_1 hk).1 (form_1 hk).2 w (by omega) ((hr.below h (Nat.le_refl _)).more h.size))
  rw [show fitF (fk no) (fl no) v = fitsF no v from rfl] at CF
  by_cases hf : fitsF no v = true
  · have hw : writeL no v = headF (fk no) v.length ++ bodyF (fk no) v := by unfold writeL; rw [if_pos hf]; rfl
    have he : writeE no v = 0 := by unfold writeE; rw [if_neg hk, if_pos hf]
    obtain ⟨-, hn1, hn2, hm1, hm2⟩ := fits_some hf
    have hlen : (headF (fk no) v.length).length = (cntF (fk no) + 1) / 2 := head_length _ _
    have hlen2 : (bodyF (fk no) v).length = sizeF (fk no) v.length := body_length _ _
    have hsz : 1 ≤ sizeF (fk no) v.length ∧ sizeF (fk no) v.length ≤ v.length := by unfold sizeF; split <;> omega
    have hcn := cnt_le (fk no)
    have CS := Lib.hid (fun w => shapeOf_any (fk no) (form_1 hk).1 (form_1 hk).2 w)
    have CC := Lib.hid (fun g w => count5_any (fk no) v.length g (fun h => cnt_room hf h) (by omega) w)
    have CI := Lib.hid (fun g w (h : Rd w w.heap.size A v) => itself5_any (fk no) g A v c (fun h2 => fit_fig (k := fk no) (n := fl no) hf h2) w (by omega) hc hcm h)
    have CX := Lib.hid (fun (A1 A2 : Option Addr) c1 c2 w h1 h2 => concat2_any A1 A2 (headF (fk no) v.length) (bodyF (fk no) v) _ _ c1 c2 w rfl rfl (by omega) (by omega) (by omega) h1 h2)
    have R0 := Lib.hid (fun w (h : Below W.heap.size W w) => (hr.below h (Nat.le_refl _)).more h.size)
    rw [hf] at CF
    rw [hw, he, List.length_append]
    unfold shV mayV at CS CC CI
    clear hw he hn1 hn2 hm1 hm2 hlen hlen2 hsz hcn hf hT hr e0 hk
    generalize decide (fk no ≤ 2) = P at *
    generalize headF (fk no) v.length = H at *
    generalize bodyF (fk no) v = Bd at *
    generalize loF (fk no) = lo at *
    generalize hiF (fk no) = hi at *
    generalize cntF (fk no) = L at *
    generalize fk no = k at *
    generalize fl no = n at *
    generalize H.length = N1 at *
    generalize Bd.length = N2 at *
    generalize v.length = m at *
    go_enter Tryd.func13, Tryd.ntmps13
    go_wp2_with fail
    refine CO.out.mono ?_
    rintro e w1 ⟨rfl, hb⟩
    have hb2 := hb.alloc hb.size (.cells #[.int .i64 (k : Int), .int .i64 (n : Int)] 25)
    have HF := Lib.hid (heap_alloc_new w1 (.cells #[.int .i64 (k : Int), .int .i64 (n : Int)] 25))
    obtain ⟨V1, hV1⟩ : ∃ V, V = w1.alloc (.cells #[.int .i64 (k : Int), .int .i64 (n : Int)] 25) := ⟨_, rfl⟩
    rw [← hV1] at hb2 HF
    have HB1 := Lib.hid hb2
    have HV1 := Lib.hid hV1
    clear hb CO hb2 hV1
    go_wp2_with fail
    rw [← HV1.out]
    refine (CF.out _ HB1.out).mono ?_
    rintro e w2 ⟨rfl, hb⟩
    have HB2 := Lib.hid (bel5 HB1.out hb HB1.out.size)
    have HF2 := Lib.hid (old5 HF.out hb (Nat.le_refl _))
    clear hb CF HB1 HF HV1
    obtain ⟨f0, f1⟩ := cells2 HF2.out
    go_wp2_with fail
    refine (CS.out w2).mono ?_
    rintro e w3 ⟨⟨g, rfl, -⟩, hb⟩
    have hb3 := bel5 HB2.out hb HB2.out.size
    have HF3 := Lib.hid (old5 HF2.out hb (Nat.le_refl _))
    obtain ⟨V, hV, hbV, hS⟩ := box_shape w3 L P (.func (.func 46) #[] #[.pointer (some ⟨g, 0, none⟩), .pointer (some ⟨g + 1, 0, none⟩)])
    have HBV := Lib.hid (bel5 hb3 hbV hb3.size)
    have HS := Lib.hid hS
    have HV := Lib.hid hV
    clear f0 f1 hb hb3 hbV hS hV HB2 HF2 CS HF3
    go_wp2_with (with_reducible refine at_list5 ?_; refine storeS _ (.tmp 8) (.tmp 22) w3.heap.size (.int .i64 (L : Int)) (.bool P) (.func (.func 46) #[] #[.pointer (some ⟨g, 0, none⟩), .pointer (some ⟨g + 1, 0, none⟩)]) #[.int .i64 0, .bool false, .nilFunc] (by exact heap_alloc_new w3 _) rfl (by simp [Value.oneCell']) rfl rfl rfl rfl ?_; rw [foldS, ← HV.out])
    obtain ⟨s, hs⟩ : ∃ s, s = w3.heap.size := ⟨_, rfl⟩
    rw [← hs] at HS ⊢
    clear hs HV
    have BB0 := Lib.hid ((Below.refl V.heap.size V).drew)
    have KEEP := Lib.hid (fun w' (h : Below V.heap.size V w') => (show Below V.heap.size V w' ∧ w'.cell? ⟨s, 0, none⟩ = some (.int .i64 (L : Int)) ∧ w'.cell? ⟨s, 1, none⟩ = some (.bool P) ∧ w'.cell? ⟨s, 2, none⟩ = some (.func (.func 46) #[] #[.pointer (some ⟨g, 0, none⟩), .pointer (some ⟨g + 1, 0, none⟩)]) from
      ⟨h, cellsS (old5 HS.out h (Nat.le_refl _))⟩))
    have RV := Lib.hid (fun w' (h : Below V.heap.size V w') => R0.out w' (bel5 HBV.out h HBV.out.size))
    clear R0 HS
    go_region_held3 (fun w' => Below V.heap.size V w' ∧ w'.cell? ⟨s, 0, none⟩ = some (.int .i64 (L : Int)) ∧ w'.cell? ⟨s, 1, none⟩ = some (.bool P) ∧ w'.cell? ⟨s, 2, none⟩ = some (.func (.func 46) #[] #[.pointer (some ⟨g, 0, none⟩), .pointer (some ⟨g + 1, 0, none⟩)]))
      (first | with_reducible exact KEEP.out _ BB0.out | with_reducible exact KEEP.out _ BB1.out | with_reducible exact KEEP.out _ BB2.out | with_reducible exact KEEP.out _ (BB2.out.alloc BB2.out.size _) | with_reducible exact KEEP.out _ BB3.out)
      (first
      | (go_at_call 25; refine (CC.out g _).mono ?_; rintro e wa ⟨⟨A1, c1, rfl, a1, a2, a3⟩, hb⟩; have BB1 := Lib.hid (bel5 BB0.out hb (by exact Nat.le_refl _)); have R1 := Lib.hid a3; clear hb a1 a2 a3)
      | (go_at_call 26; refine (CI.out g _ (RV.out _ BB1.out)).mono ?_; rintro e wb ⟨⟨A2, c2, rfl, a1, a2, a3⟩, hb⟩; have BB2 := Lib.hid (bel5 BB1.out hb BB1.out.size); have R1' := Lib.hid ((R1.out.below hb (Nat.le_refl _)).more hb.size); have R2 := Lib.hid a3; clear hb a1 a2 a3)
      | (go_at_call 24; refine (CX.out A1 A2 c1 c2 _ R1'.out R2.out).mono ?_; rintro e wc ⟨⟨A3, c3, rfl, a1, a2, a3⟩, hb⟩; have BB3 := Lib.hid (bel5 BB2.out hb BB2.out.size); have R3 := Lib.hid a3; clear hb a3))
    all_goals
      go_wp2_with fail
      go_ret2
      exact ⟨⟨A3, c3, rfl, a1, a2, R3.out⟩, bel5 HBV.out BB3.out HBV.out.size⟩
  · have hw : writeL no v = [] := by unfold writeL; rw [if_neg hf]
    have he : writeE no v = 1 := by unfold writeE; rw [if_neg hk, if_neg hf]
    rw [hw, he]
    rw [show fitsF no v = false by simpa using hf] at CF
    clear e0 hk hr hT hw he hf
    generalize fk no = k at *
    generalize fl no = n at *
    generalize v.length = m at *
    go_enter Tryd.func13, Tryd.ntmps13
    go_wp2_with fail
    refine CO.out.mono ?_
    rintro e w1 ⟨rfl, hb⟩
    have HB1 := Lib.hid (hb.alloc hb.size (.cells #[.int .i64 (k : Int), .int .i64 (n : Int)] 25))
    clear hb CO
    go_wp2_with fail
    refine (CF.out _ HB1.out).mono ?_
    rintro e w2 ⟨rfl, hb⟩
    have HB2 := Lib.hid (bel5 HB1.out hb HB1.out.size)
    clear hb CF HB1
    go_wp2
    go_ret2
    exact ⟨⟨none, 0, rfl, Nat.le_refl _, by omega, Rd.nil⟩, HB2.out⟩
end Go.Proofs.YtecdmdgpmbgaaaaDoor
