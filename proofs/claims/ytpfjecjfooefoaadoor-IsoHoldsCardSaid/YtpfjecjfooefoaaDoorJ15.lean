
/- The document's answers (iso): Set. -/
import Derived.Test.YtpfjecjfooefoaaDoorJ04
import Derived.Test.YtpfjecjfooefoaaDoorJ14
namespace Go.Proofs.YtpfjecjfooefoaaDoor
open Go.RowKit

def setL (l : List Fl) (no : Int) (v : List UInt8) : List Fl := (l.filter fun x => decide (x.1 < no)) ++ [(no, v)] ++ (l.filter fun x => decide (no < x.1))
def setM (l : List Fl) (no : Int) (v : List UInt8) : List Fl := if fitsF no v = true then setL l no v else l
def setE (no : Int) (v : List UInt8) : Int := if fk no = 0 then 12 else if fitsF no v = true then 0 else 1
set_option maxRecDepth 100000 in
theorem retM2 {fn : Func} {p q : Tmp} (h : fn.results = #[.cell p 24, .tmp q]) (tmps : Array Value) (W : World) (g : Nat) (x y v : Value) (hp : tmps.getD p undef = .pointer (some ⟨g, 0, none⟩)) (hq : tmps.getD q undef = v) (hg : W.heap[g]? = some (.cells #[x, y] 24 (0, 0))) :
    (results fn tmps).run Tryd.prog W = .ok (.tuple #[.agg #[x, y], v]) W := by
  have hp' : tmps[p]?.getD undef = .pointer (some ⟨g, 0, none⟩) := by simpa using hp
  have hq' : tmps[q]?.getD undef = v := by simpa using hq
  simp [results, h, hp', hq', asAddr, run_loadVar_row W g 24 24 #[x, y] (0, 0) _ hg Tryd.underlying24 rfl (by kernel_rfl)]
/-- an answer: a message, and an error -/
def AnsMx (W' : World) (e : Ending) (t : Int) (l : List Fl) (x : Int) : Prop := ∃ A c, e = .returned (.tuple #[.agg #[.int .i64 t, .slice A l.length c], .int .i64 x]) ∧ l.length ≤ c ∧ c ≤ 9223372036854775807 ∧ RdF W' W'.heap.size A l
set_option maxRecDepth 100000 in
/-- a row of fields, where one block alone changes that lies apart from it, and holds no byte -/
theorem RdF.keepM {w w' : World} {g B : Nat} {A : Option Addr} {l : List Fl} (h : RdF w B A l) (hB : B ≤ w.heap.size) (hgB : B ≤ g) (hk : ∀ k, k ≠ g → w'.heap[k]? = w.heap[k]?) (hs : w.heap.size ≤ w'.heap.size) : RdF w' w'.heap.size A l := by
  intro h0
  obtain ⟨b, o, e, hb, hc⟩ := h h0
  refine ⟨b, o, e, by omega, fun j hj => ?_⟩
  obtain ⟨A1, c1, f1, f2, f3, f4, f5⟩ := hc j hj
  have hkb := hk b (by omega)
  refine ⟨A1, c1, by rw [World.cell?_of_block (w := w) (a := ⟨b, o + j * 2, none⟩) hkb]; exact f1, by rw [World.cell?_of_block (w := w) (a := ⟨b, o + j * 2 + 1, none⟩) hkb]; exact f2, f3, f4, ?_⟩
  intro h1
  obtain ⟨b2, o2, e2, hb2, hc2⟩ := f5 h1
  exact ⟨b2, o2, e2, by omega, fun q hq => by rw [World.cell?_of_block (w := w) (a := ⟨b2, o2 + q, none⟩) (hk b2 (by omega))]; exact hc2 q hq⟩

set_option maxRecDepth 100000 in
set_option maxHeartbeats 8000000 in
theorem refSet_any (t : Int) (A : Option Addr) (l : List Fl) (c : Nat) (no : Int) (B : Option Addr) (v : List UInt8) (d : Nat) (W : World) (hl : l.length ≤ 1000) (hc : l.length ≤ c) (hcm : c ≤ 9223372036854775807) (hr : RdF W W.heap.size A l) (hv : v.length ≤ 100000) (hd : v.length ≤ d) (hdm : d ≤ 9223372036854775807) (hs : Rd W W.heap.size B v) :
    Calls Tryd.prog 29 #[.agg #[.int .i64 t, .slice A l.length c], .int .i64 no, .slice B v.length d] W fun e W' => AnsMx W' e t (setM l no v) (setE no v) ∧ Below W.heap.size W W' := by
  obtain ⟨n, hn⟩ : ∃ n, n = l.length := ⟨_, rfl⟩
  have HN := Lib.hid hn
  rw [← hn] at hl hc ⊢
  obtain ⟨V, hV, hb, g1, g2⟩ := box2 W #[.int .i64 t, .slice A n c] #[.int .i64 0, .slice none 0 0] 24 24
  have CO := Lib.hid (refOf_any no V)
  have CF := Lib.hid (fun w (h : Below W.heap.size W w) => refFitsNo_any no B v d w (by omega) ((hs.below h (Nat.le_refl _)).more h.size))
  have HG1 := Lib.hid g1
  have HG2 := Lib.hid g2
  have HB := Lib.hid hb
  have HV := Lib.hid hV
  have RF := Lib.hid (fun w (h : Below W.heap.size W w) => hr.below h (Nat.le_refl _))
  have RV := Lib.hid (fun w (h : Below W.heap.size W w) => (hs.below h (Nat.le_refl _)).more h.size)
  have HG2S := Lib.hid (show W.heap.size + 1 < V.heap.size from (Array.getElem?_eq_some_iff.1 g2).1)
  have HC := Lib.hid hc
  have HCM := Lib.hid hcm
  have HVD := Lib.hid hd
  have HDM := Lib.hid hdm
  clear hn hV hb g1 g2 hr hc hcm hs hv hd hdm
  by_cases hk : fk no = 0
  · have he : setE no v = 12 := by unfold setE; rw [if_pos hk]
    have hm : setM l no v = l := by unfold setM; rw [fits_none hk]; rfl
    have e0 : decide (fk no ≠ 0) = false := decide_eq_false (by omega)
    rw [e0] at CO
    rw [he, hm]
    clear CF e0 he hm hk
    generalize fk no = kk at *
    generalize fl no = nn at *
    generalize v.length = m at *
    go_enter Tryd.func29, Tryd.ntmps29
    go_wp2_with fail
    rw [← HV.out]
    refine CO.out.mono ?_
    rintro e w1 ⟨rfl, hb⟩
    have hb1 := hb.alloc hb.size (.cells #[.int .i64 (kk : Int), .int .i64 (nn : Int)] 95)
    have HG1' := Lib.hid (oldG HG1.out hb1 (Nat.le_refl _))
    have HG2' := Lib.hid (oldG HG2.out hb1 (Nat.le_refl _))
    have HB1 := Lib.hid hb1
    obtain ⟨V1, hV1⟩ : ∃ V, V = w1.alloc (.cells #[.int .i64 (kk : Int), .int .i64 (nn : Int)] 95) := ⟨_, rfl⟩
    rw [← hV1] at HB1 HG1' HG2'
    have HV1 := Lib.hid hV1
    clear hb hb1 hV1 CO HV
    have HBE := Lib.hid (belG HB.out HB1.out HB.out.size)
    have HGE := HG2'
    obtain ⟨e0', e1'⟩ := cG2 HG1'.out
    obtain ⟨y0', y1'⟩ := cG2 HG2'.out
    have z0' := fG HG2'.out 0
    have z1' := fG HG2'.out 1
    rw [HV1.out] at e0' e1' y0' y1' z0' z1'
    go_wp2
    rw [← HV1.out]
    (try simp only [Exit.inBlock, Exit.then])
    refine bodyPost_ret (retM2 rfl _ (set2G V1 (W.heap.size + 1) (.int .i64 t) (.slice A n c)) (W.heap.size + 1) _ _ _ rfl rfl (set2G_same _ _ HGE.out)) rfl ?_
    have hbe := HBE.out
    have hoth := fun k hk => set2G_other V1 (W.heap.size + 1) k (.int .i64 t) (.slice A n c) hk
    exact ⟨⟨A, c, by rw [← HN.out]; rfl, by rw [← HN.out]; exact HC.out, HCM.out, RdF.keepM (RF.out _ hbe) hbe.size (Nat.le_succ _) hoth (Nat.le_of_eq (set2G_size _ _ _ _).symm)⟩, Below.set2G hbe (Nat.le_succ _) _ _⟩
  have e0 : decide (fk no ≠ 0) = true := decide_eq_true hk
  rw [e0] at CO
  by_cases hf : ¬ fitsF no v = true
  · have he : setE no v = 1 := by unfold setE; rw [if_neg hk, if_neg hf]
    have hm : setM l no v = l := by unfold setM; rw [if_neg hf]
    rw [show fitsF no v = false by simpa using hf] at CF
    rw [he, hm]
    clear e0 he hm hk hf
    generalize fk no = kk at *
    generalize fl no = nn at *
    generalize v.length = m at *
    go_enter Tryd.func29, Tryd.ntmps29
    go_wp2_with fail
    rw [← HV.out]
    refine CO.out.mono ?_
    rintro e w1 ⟨rfl, hb⟩
    have hb1 := hb.alloc hb.size (.cells #[.int .i64 (kk : Int), .int .i64 (nn : Int)] 95)
    have HG1' := Lib.hid (oldG HG1.out hb1 (Nat.le_refl _))
    have HG2' := Lib.hid (oldG HG2.out hb1 (Nat.le_refl _))
    have HB1 := Lib.hid hb1
    obtain ⟨V1, hV1⟩ : ∃ V, V = w1.alloc (.cells #[.int .i64 (kk : Int), .int .i64 (nn : Int)] 95) := ⟨_, rfl⟩
    rw [← hV1] at HB1 HG1' HG2'
    have HV1 := Lib.hid hV1
    clear hb hb1 hV1 CO HV
    go_wp2_with fail
    rw [← HV1.out]
    refine (CF.out _ (belG HB.out HB1.out HB.out.size)).mono ?_
    rintro e w2 ⟨rfl, hb⟩
    have HB2 := Lib.hid (belG HB1.out hb HB1.out.size)
    have HG1n := Lib.hid (oldG HG1'.out hb (Nat.le_refl _))
    have HG2n := Lib.hid (oldG HG2'.out hb (Nat.le_refl _))
    clear hb CF HV1 HB1 HG1' HG2'
    have HBE := Lib.hid (belG HB.out HB2.out HB.out.size)
    have HGE := HG2n
    obtain ⟨e0, e1⟩ := cG2 HG1n.out
    obtain ⟨y0, y1⟩ := cG2 HG2n.out
    have z0 := fG HG2n.out 0
    have z1 := fG HG2n.out 1
    go_wp2
    (try simp only [Exit.inBlock, Exit.then])
    refine bodyPost_ret (retM2 rfl _ (set2G w2 (W.heap.size + 1) (.int .i64 t) (.slice A n c)) (W.heap.size + 1) _ _ _ rfl rfl (set2G_same _ _ HGE.out)) rfl ?_
    have hbe := HBE.out
    have hoth := fun k hk => set2G_other w2 (W.heap.size + 1) k (.int .i64 t) (.slice A n c) hk
    exact ⟨⟨A, c, by rw [← HN.out]; rfl, by rw [← HN.out]; exact HC.out, HCM.out, RdF.keepM (RF.out _ hbe) hbe.size (Nat.le_succ _) hoth (Nat.le_of_eq (set2G_size _ _ _ _).symm)⟩, Below.set2G hbe (Nat.le_succ _) _ _⟩
  have hf : fitsF no v = true := Classical.byContradiction hf
  have he : setE no v = 0 := by unfold setE; rw [if_neg hk, if_pos hf]
  have hm : setM l no v = setL l no v := by unfold setM; rw [if_pos hf]
  rw [hf] at CF
  rw [he, hm]
  obtain ⟨R, hR⟩ : ∃ R, R = setL l no v := ⟨_, rfl⟩
  rw [← hR]
  have HR := Lib.hid (show R = (l.filter fun x => decide (x.1 < no)) ++ [(no, v)] ++ (l.filter fun x => decide (no < x.1)) from hR)
  clear e0 he hm hk hf hR
  generalize fk no = kk at *
  generalize fl no = nn at *
  obtain ⟨m, hm⟩ : ∃ m, m = v.length := ⟨_, rfl⟩
  have HM := Lib.hid hm
  rw [← hm] at CF HVD ⊢
  clear hm
  go_enter Tryd.func29, Tryd.ntmps29
  go_wp2_with fail
  rw [← HV.out]
  refine CO.out.mono ?_
  rintro e w1 ⟨rfl, hb⟩
  have hb1 := hb.alloc hb.size (.cells #[.int .i64 (kk : Int), .int .i64 (nn : Int)] 95)
  have HG1' := Lib.hid (oldG HG1.out hb1 (Nat.le_refl _))
  have HG2' := Lib.hid (oldG HG2.out hb1 (Nat.le_refl _))
  have HB1 := Lib.hid hb1
  obtain ⟨V1, hV1⟩ : ∃ V, V = w1.alloc (.cells #[.int .i64 (kk : Int), .int .i64 (nn : Int)] 95) := ⟨_, rfl⟩
  rw [← hV1] at HB1 HG1' HG2'
  have HV1 := Lib.hid hV1
  clear hb hb1 hV1 CO HV
  go_wp2_with fail
  rw [← HV1.out]
  refine (CF.out _ (belG HB.out HB1.out HB.out.size)).mono ?_
  rintro e w2 ⟨rfl, hb⟩
  have HB2 := Lib.hid (belG HB1.out hb HB1.out.size)
  have HG1n := Lib.hid (oldG HG1'.out hb (Nat.le_refl _))
  have HG2n := Lib.hid (oldG HG2'.out hb (Nat.le_refl _))
  clear hb CF HV1 HB1 HG1' HG2'
  have HBE := Lib.hid (belG HB.out HB2.out HB.out.size)
  have HGW := Lib.hid (show W.heap.size + 1 < w2.heap.size from Nat.lt_of_lt_of_le HG2S.out HB2.out.size)
  go_wp2
  go_loopw [12, 11] (fun i v' wr => ∃ k : Nat, ∃ us : List V2f, k ≤ n ∧ i = .int .i64 k ∧ Hid (OwF wr w2.heap.size v' us) ∧ Hid (FEs wr us ((l.take k).filter fun x => decide (x.1 < no))) ∧ Hid (us.length ≤ k) ∧ Hid (Below w2.heap.size w2 wr)) (fun i _ _ => n - (intOf i).toNat)
  case atStart => exact ⟨0, [], Nat.zero_le _, rfl, Lib.hid OwF.nil, Lib.hid (by rw [List.take_zero]; exact FEs.nil), Lib.hid (Nat.le_refl _), Lib.hid (Below.refl _ _)⟩
  case round =>
    obtain ⟨k, us, hk, rfl, HO, HF, HU, HBV⟩ := hrel
    have HBW := Lib.hid (belG HBE.out HBV.out HBE.out.size)
    obtain ⟨e0, e1⟩ := cG2 (oldG HG1n.out HBV.out (Nat.le_refl _))
    by_cases hlt : k < n
    · have hk1 : k < l.length := by rw [← HN.out]; exact hlt
      obtain ⟨b1, o1, A1, c1, rfl, hb1, x1, y1, h13, h14, h15⟩ := RdF.at_ ((RF.out _ HBW.out).more HBW.out.size) hk1
      have HFN := Lib.hid (filter_next (fun x => decide (x.1 < no)) l k hk1)
      have HFE := Lib.hid (show FE wr wr.heap.size (.int .i64 l[k].1, .slice A1 l[k].2.length c1) l[k] from ⟨A1, c1, rfl, h13, h14, h15⟩)
      have hki : (k : Int) < (n : Int) := by omega
      have hk0 : (0 : Int) ≤ (k : Int) := Int.natCast_nonneg _
      obtain ⟨xk, hxk⟩ : ∃ x, x = l[k].1 := ⟨_, rfl⟩
      have HXK := Lib.hid hxk
      rw [← hxk] at x1 HFE
      generalize l[k].2.length = z1 at *
      clear hxk h13 h14 h15 hb1
      by_cases hno : xk < no
      · have HFN2 := Lib.hid (show (l.take (k + 1)).filter (fun x => decide (x.1 < no)) = (l.take k).filter (fun x => decide (x.1 < no)) ++ [l[k]] by rw [HFN.out, if_pos (by rw [← HXK.out]; simp [hno])])
        have d1 : decide (xk < no) = true := decide_eq_true hno
        have HU9 := Lib.hid (show us.length ≤ 1000000 from Nat.le_trans HU.out (by omega))
        clear HFN HXK
        go_wp2_with (at_builtin; refine wpList_appF _ rfl (.tmp 43) (.tmp 49) rfl w2.heap.size _ us rfl (by exact HO.out.alloc _) wr.heap.size 1 rfl xk A1 z1 c1 (by exact (cG2 (heap_alloc_new wr _)).1) (by exact (cG2 (heap_alloc_new wr _)).2) HU9.out (by exact le_alloc HBV.out.size _) ?_; intro v3 w3 hown3 hgrow3; have hb3 := OwF.below (w0 := w2) (by exact HO.out.alloc _) (by exact HBV.out.alloc HBV.out.size _) hgrow3 (by exact le_alloc HBV.out.size _); have HB3 := Lib.hid hb3; have hal := (Below.refl wr.heap.size wr).alloc (Nat.le_refl _) (.cells #[.int .i64 xk, .slice A1 z1 c1] 60); have HF3 := Lib.hid (((HF.out.snoc HFE.out).go hal).keep (fun _ _ hr => Rd.grownF hr (HO.out.alloc _) hgrow3)); have HO3 := Lib.hid hown3; clear hown3 hgrow3 hb3 hal)
        go_roundw
        case rel => exact ⟨k + 1, _, by omega, by go_num, HO3, Lib.hid (by have h := HF3.out; rw [HFN2.out]; (try rw [← List.append_assoc]); exact h), Lib.hid (by rw [List.length_append]; have := HU.out; show us.length + 1 ≤ _; omega), HB3⟩
        case measure => simp [intOf]; omega
      · have HFN2 := Lib.hid (show (l.take (k + 1)).filter (fun x => decide (x.1 < no)) = (l.take k).filter (fun x => decide (x.1 < no)) by rw [HFN.out, if_neg (by rw [← HXK.out]; simp [hno]), List.append_nil])
        have d1 : decide (xk < no) = false := decide_eq_false hno
        clear HFN HFE HXK
        go_wp2
        go_roundw
        case rel => exact ⟨k + 1, us, by omega, by go_num, HO, Lib.hid (by rw [HFN2.out]; exact HF.out), Lib.hid (by have := HU.out; omega), HBV⟩
        case measure => simp [intOf]; omega
    · have hki : ¬ (k : Int) < (n : Int) := by omega
      have HRT := Lib.hid (show (l.take k).filter (fun x => decide (x.1 < no)) = l.filter fun x => decide (x.1 < no) by rw [List.take_of_length_le (by have := HN.out; omega)])
      have HFE := Lib.hid (show FE wr wr.heap.size (.int .i64 no, .slice B m d) (no, v) from ⟨B, d, by rw [HM.out], by rw [← HM.out]; exact HVD.out, HDM.out, RV.out _ HBW.out⟩)
      have HU9 := Lib.hid (show us.length ≤ 1000000 from Nat.le_trans HU.out (by omega))
      obtain ⟨PP, hPP⟩ : ∃ P, P = (l.filter fun x => decide (x.1 < no)) ++ [(no, v)] := ⟨_, rfl⟩
      have HPP := Lib.hid hPP
      clear hPP
      go_wp2_with (at_builtin; refine wpList_appF _ rfl (.tmp 51) (.tmp 55) rfl w2.heap.size _ us rfl (by exact HO.out.alloc _) wr.heap.size 1 rfl no B m d (by exact (cG2 (heap_alloc_new wr _)).1) (by exact (cG2 (heap_alloc_new wr _)).2) HU9.out (by exact le_alloc HBV.out.size _) ?_; intro v3 w3 hown3 hgrow3; have hb3 := OwF.below (w0 := w2) (by exact HO.out.alloc _) (by exact HBV.out.alloc HBV.out.size _) hgrow3 (by exact le_alloc HBV.out.size _); have HB3 := Lib.hid hb3; have hal := (Below.refl wr.heap.size wr).alloc (Nat.le_refl _) (.cells #[.int .i64 no, .slice B m d] 60); have HF3 := Lib.hid (((HF.out.snoc HFE.out).go hal).keep (fun _ _ hr => Rd.grownF hr (HO.out.alloc _) hgrow3)); rw [HRT.out] at HF3; have HU3 := Lib.hid (show (us ++ [(Value.int .i64 no, Value.slice B m d)]).length ≤ n + 1 + 0 by rw [List.length_append]; have := HU.out; show us.length + 1 ≤ _; omega); have HO3 := Lib.hid hown3; clear hown3 hgrow3 hb3 hal)
      clear e0 e1 HO HF HU HU9 HBV HBW HFE HRT
      go_loopw [13, 11] (fun i v' wr => ∃ k : Nat, ∃ us : List V2f, k ≤ n ∧ i = .int .i64 k ∧ Hid (OwF wr w2.heap.size v' us) ∧ Hid (FEs wr us (PP ++ (l.take k).filter fun x => decide (no < x.1))) ∧ Hid (us.length ≤ n + 1 + k) ∧ Hid (Below w2.heap.size w2 wr)) (fun i _ _ => n - (intOf i).toNat)
      case atStart => exact ⟨0, _, Nat.zero_le _, rfl, HO3, Lib.hid (by rw [List.take_zero]; have h := HF3.out; rw [← HPP.out] at h; simpa using h), Lib.hid HU3.out, HB3⟩
      case round =>
        obtain ⟨k, us, hk, rfl, HO, HF, HU, HBV⟩ := hrel
        have HBW := Lib.hid (belG HBE.out HBV.out HBE.out.size)
        obtain ⟨e0, e1⟩ := cG2 (oldG HG1n.out HBV.out (Nat.le_refl _))
        by_cases hlt : k < n
        · have hk1 : k < l.length := by rw [← HN.out]; exact hlt
          obtain ⟨b1, o1, A1, c1, rfl, hb1, x1, y1, h13, h14, h15⟩ := RdF.at_ ((RF.out _ HBW.out).more HBW.out.size) hk1
          have HFN := Lib.hid (filter_next (fun x => decide (no < x.1)) l k hk1)
          have HFE := Lib.hid (show FE wr wr.heap.size (.int .i64 l[k].1, .slice A1 l[k].2.length c1) l[k] from ⟨A1, c1, rfl, h13, h14, h15⟩)
          have hki : (k : Int) < (n : Int) := by omega
          have hk0 : (0 : Int) ≤ (k : Int) := Int.natCast_nonneg _
          obtain ⟨xk, hxk⟩ : ∃ x, x = l[k].1 := ⟨_, rfl⟩
          have HXK := Lib.hid hxk
          rw [← hxk] at x1 HFE
          generalize l[k].2.length = z1 at *
          clear hxk h13 h14 h15 hb1
          by_cases hno : no < xk
          · have HFN2 := Lib.hid (show (l.take (k + 1)).filter (fun x => decide (no < x.1)) = (l.take k).filter (fun x => decide (no < x.1)) ++ [l[k]] by rw [HFN.out, if_pos (by rw [← HXK.out]; simp [hno])])
            have d1 : decide (no < xk) = true := decide_eq_true hno
            have HU9 := Lib.hid (show us.length ≤ 1000000 from Nat.le_trans HU.out (by omega))
            clear HFN HXK
            go_wp2_with (at_builtin; refine wpList_appF _ rfl (.tmp 72) (.tmp 78) rfl w2.heap.size _ us rfl (by exact HO.out.alloc _) wr.heap.size 1 rfl xk A1 z1 c1 (by exact (cG2 (heap_alloc_new wr _)).1) (by exact (cG2 (heap_alloc_new wr _)).2) HU9.out (by exact le_alloc HBV.out.size _) ?_; intro v3 w3 hown3 hgrow3; have hb3 := OwF.below (w0 := w2) (by exact HO.out.alloc _) (by exact HBV.out.alloc HBV.out.size _) hgrow3 (by exact le_alloc HBV.out.size _); have HB3 := Lib.hid hb3; have hal := (Below.refl wr.heap.size wr).alloc (Nat.le_refl _) (.cells #[.int .i64 xk, .slice A1 z1 c1] 60); have HF3 := Lib.hid (((HF.out.snoc HFE.out).go hal).keep (fun _ _ hr => Rd.grownF hr (HO.out.alloc _) hgrow3)); have HO3 := Lib.hid hown3; clear hown3 hgrow3 hb3 hal)
            go_roundw
            case rel => exact ⟨k + 1, _, by omega, by go_num, HO3, Lib.hid (by have h := HF3.out; rw [HFN2.out]; (try rw [← List.append_assoc]); exact h), Lib.hid (by rw [List.length_append]; have := HU.out; show us.length + 1 ≤ _; omega), HB3⟩
            case measure => simp [intOf]; omega
          · have HFN2 := Lib.hid (show (l.take (k + 1)).filter (fun x => decide (no < x.1)) = (l.take k).filter (fun x => decide (no < x.1)) by rw [HFN.out, if_neg (by rw [← HXK.out]; simp [hno]), List.append_nil])
            have d1 : decide (no < xk) = false := decide_eq_false hno
            clear HFN HFE HXK
            go_wp2
            go_roundw
            case rel => exact ⟨k + 1, us, by omega, by go_num, HO, Lib.hid (by rw [HFN2.out]; exact HF.out), Lib.hid (by have := HU.out; omega), HBV⟩
            case measure => simp [intOf]; omega
        · have hki : ¬ (k : Int) < (n : Int) := by omega
          have HRT := Lib.hid (show PP ++ (l.take k).filter (fun x => decide (no < x.1)) = R by rw [HPP.out, HR.out, List.take_of_length_le (by have := HN.out; omega)])
          obtain ⟨A9, c9, e9, q1, q2⟩ := HO.out.form
          subst e9
          have hg4 := oldG HG2n.out HBV.out (Nat.le_refl _)
          obtain ⟨y0, y1⟩ := cG2 hg4
          have z0 := fG hg4 0
          have z1 := fG hg4 1
          have HG4 := Lib.hid hg4
          clear hg4
          go_wp2
          (try simp only [Exit.inBlock, Exit.then])
          refine bodyPost_ret (retM2 rfl _ (set2G wr (W.heap.size + 1) (.int .i64 t) (.slice A9 us.length c9)) (W.heap.size + 1) _ _ _ rfl rfl (set2G_same _ _ HG4.out)) rfl ?_
          have hnb : ∀ x ∈ (#[.int .i64 0, .slice none 0 0] : Array Value).toList, NoB x = true := by
            intro x hx
            simp at hx
            rcases hx with rfl | rfl <;> rfl
          have hoth := fun k hk => set2G_other wr (W.heap.size + 1) k (.int .i64 t) (.slice A9 us.length c9) hk
          have hsz := set2G_size wr (W.heap.size + 1) (.int .i64 t) (.slice A9 us.length c9)
          have hO2 := OwF.keepM HO.out HGW.out hoth
          have hF2 := FEs.keep HF.out (fun A l hr => Rd.keepM hr HG4.out hnb hoth (by omega))
          rw [HRT.out] at hF2
          refine ⟨⟨A9, c9, by rw [← hF2.1]; rfl, by rw [← hF2.1]; exact q1, q2, hO2.rd hF2⟩, ?_⟩
          exact Below.set2G HBW.out (Nat.le_succ _) _ _
end Go.Proofs.YtpfjecjfooefoaaDoor
