
/- The document's answers (iso): Write. -/
import Derived.Test.YtpfjecjfooefoaaDoorJ16
import Derived.Test.YtpfjecjfooefoaaDoorJ19
import Derived.Test.YtpfjecjfooefoaaDoorJ21
import Derived.Deep.RegionHeld3
namespace Go.Proofs.YtpfjecjfooefoaaDoor
open Go.RowKit

def keysF (l : List Fl) : List Int := l.map (·.1)
def valsF (l : List Fl) : List UInt8 := l.flatMap fun x => writeL x.1 x.2
set_option maxRecDepth 100000 in
theorem keysF_length (l : List Fl) : (keysF l).length = l.length := by simp [keysF]
set_option maxRecDepth 100000 in
theorem keysF_next (l : List Fl) (k : Nat) (h : k < l.length) : (keysF l).take (k + 1) = (keysF l).take k ++ [l[k].1] := by
  rw [List.take_succ_eq_append_getElem (by rw [keysF_length]; exact h)]
  simp [keysF]
set_option maxRecDepth 100000 in
theorem valsF_next (l : List Fl) (k : Nat) (h : k < l.length) : valsF (l.take (k + 1)) = valsF (l.take k) ++ writeL l[k].1 l[k].2 := by
  unfold valsF
  rw [List.take_succ_eq_append_getElem h, List.flatMap_append]
  congr 1
  exact List.append_nil _
set_option maxRecDepth 100000 in
theorem writeL_small {no : Int} {v : List UInt8} (h : fitsF no v = true) : (writeL no v).length ≤ 1000 := by
  rw [write_len h]
  have h1 := cnt_le (fk no)
  obtain ⟨-, -, h2, -, h3⟩ := fits_some h
  unfold sizeF
  split <;> omega
set_option maxRecDepth 100000 in
theorem valsF_small (l : List Fl) (h : ∀ x ∈ l, fitsF x.1 x.2 = true) : (valsF l).length ≤ 1000 * l.length := by
  induction l with
  | nil => exact Nat.le_refl _
  | cons x r ih =>
    have e : valsF (x :: r) = writeL x.1 x.2 ++ valsF r := rfl
    have h1 := ih fun y hy => h y (List.mem_cons_of_mem _ hy)
    have h2 := writeL_small (h x (List.mem_cons_self ..))
    rw [e, List.length_append, List.length_cons]
    omega
set_option maxRecDepth 100000 in
theorem bmW_small (l : List Int) : (bmW l).length ≤ 16 := by
  unfold bmW
  split
  · have := sizeB_or (wideF l); rw [writeB_length]; omega
  · exact Nat.zero_le _
def isoM (t : Int) (l : List Fl) : List UInt8 := packL gFig (dgL 48 10 t.toNat 4) ++ bmW (keysF l) ++ valsF l
def isoW (t : Int) (l : List Fl) : List UInt8 := if RightM t l then isoM t l else []
def isoE (t : Int) (l : List Fl) : Int := if RightM t l then 0 else 1

set_option maxRecDepth 100000 in
set_option maxHeartbeats 4000000 in
theorem refWriteM_any (t : Int) (A : Option Addr) (l : List Fl) (c : Nat) (W : World) (ht : -9223372036854775808 ≤ t ∧ t ≤ 9223372036854775807) (hl : l.length ≤ 1000) (hlb : ∀ x ∈ l, x.2.length ≤ 100000) (hc : l.length ≤ c) (hcm : c ≤ 9223372036854775807) (hr : RdF W W.heap.size A l) :
    Calls Tryd.prog 14 #[.agg #[.int .i64 t, .slice A l.length c]] W fun e W' => Ans W' e (isoW t l) (isoW t l).length (.int .i64 (isoE t l)) ∧ Below W.heap.size W W' := by
  have RA := Lib.hid (fun w (h : Below W.heap.size W w) => (hr.below h (Nat.le_refl _)).more h.size)
  have hb := (Below.refl W.heap.size W).alloc (Nat.le_refl _) (.cells #[.int .i64 t, .slice A l.length c] 24)
  have hg := heap_alloc_new W (.cells #[.int .i64 t, .slice A l.length c] 24)
  obtain ⟨V, hV⟩ : ∃ V, V = W.alloc (.cells #[.int .i64 t, .slice A l.length c] 24) := ⟨_, rfl⟩
  rw [← hV] at hb hg
  have CR := Lib.hid (refRightM_any t A l c V ht hl hlb hc hcm (RA.out V hb))
  have HLB := Lib.hid hlb
  obtain ⟨n, hn⟩ : ∃ n, n = l.length := ⟨_, rfl⟩
  have HN := Lib.hid hn
  rw [← hn] at hl hg hV CR ⊢
  have HG := Lib.hid hg
  have HB := Lib.hid hb
  have HV := Lib.hid hV
  by_cases hR : RightM t l
  · rw [show isoW t l = isoM t l from if_pos hR, show isoE t l = 0 from if_pos hR]
    rw [decide_eq_true hR] at CR
    have HFT := Lib.hid (fun k (h : k < l.length) => (hR.2 k h).1)
    have hfit : ∀ x ∈ l, fitsF x.1 x.2 = true := fun x hx => by
      obtain ⟨k, hk, rfl⟩ := List.getElem_of_mem hx
      exact (hR.2 k hk).1
    have HVS := Lib.hid (fun k => show (valsF (l.take k)).length ≤ 1000000 from Nat.le_trans (valsF_small _ fun x hx => hfit x (List.mem_of_mem_take hx)) (by have := List.length_take_le' k l; omega))
    obtain ⟨t1, t2, -, -⟩ := typeF_bd hR.1
    obtain ⟨m, rfl⟩ : ∃ m : Nat, t = (m : Int) := ⟨t.toNat, by omega⟩
    have C4 := Lib.hid (fun w => refFour_any m (by omega) w)
    have hsl : (dgL 48 10 m 4).length = 4 := dgL_length _ _ _ _
    have C5 := Lib.hid (fun w => refBcdO_any ⟨(dgL 48 10 m 4).toArray⟩ w (by simp [ByteArray.size, hsl]) (by simp [ByteArray.size, hsl]) (by simpa using dgL_fig m 4))
    have HT4 := Lib.hid (show (packL gFig (⟨(dgL 48 10 m 4).toArray⟩ : ByteArray).data.toList).length = 2 by rw [packL_length]; simp [hsl])
    have HRES := Lib.hid (show isoM (m : Int) l = packL gFig (⟨(dgL 48 10 m 4).toArray⟩ : ByteArray).data.toList ++ bmW (keysF l) ++ valsF l by unfold isoM; rw [Int.toNat_natCast])
    have CB := Lib.hid (fun w A c (h : RdI w w.heap.size A (keysF l)) => refWriteB_any A (keysF l) c w (by rw [keysF_length]; omega) h)
    have HBS := Lib.hid (bmW_small (keysF l))
    have HKL := Lib.hid (keysF_length l)
    clear hR hfit hlb ht hr hn hb hg hV hc hcm hsl t1 t2
    generalize isoM (m : Int) l = R at *
    generalize packL gFig (⟨(dgL 48 10 m 4).toArray⟩ : ByteArray).data.toList = T4 at *
    generalize (⟨(dgL 48 10 m 4).toArray⟩ : ByteArray) = S4 at *
    go_enter Tryd.func14, Tryd.ntmps14
    obtain ⟨e0, e1⟩ := cG2 HG.out
    rw [HV.out] at e0 e1
    go_wp2_with fail
    rw [← HV.out] at *
    refine CR.out.mono ?_
    rintro e w1 ⟨rfl, hb⟩
    have HBV1 := Lib.hid hb
    clear hb CR HV e0 e1
    go_wp2
    go_loopw [7, 5, 6] (fun i vI vB wr => ∃ k : Nat, k ≤ n ∧ i = .int .i64 k ∧ Hid (OwI wr V.heap.size vI ((keysF l).take k)) ∧ Hid (Ow wr V.heap.size vB (valsF (l.take k))) ∧ Hid (Below V.heap.size V wr)) (fun i _ _ _ => n - (intOf i).toNat)
    case atStart => exact ⟨0, Nat.zero_le _, rfl, Lib.hid OwI.nil, Lib.hid Ow.nil, Lib.hid HBV1.out⟩
    case round =>
      obtain ⟨k, hk, rfl, HI, HS, HBV⟩ := hrel
      have HBW := Lib.hid (belG HB.out HBV.out HB.out.size)
      obtain ⟨e0, e1⟩ := cG2 (oldG HG.out HBV.out (Nat.le_refl _))
      by_cases hlt : k < n
      · have hk1 : k < l.length := by rw [← HN.out]; exact hlt
        obtain ⟨b1, o1, A1, c1, rfl, hb1, x1, y1, h13, h14, h15⟩ := (RA.out _ HBW.out).at_ hk1
        have hki : (k : Int) < (n : Int) := by omega
        have hk0 : (0 : Int) ≤ (k : Int) := Int.natCast_nonneg _
        have HKN := Lib.hid (keysF_next l k hk1)
        have HVN := Lib.hid (valsF_next l k hk1)
        have hv := HLB.out _ (List.getElem_mem hk1)
        have hw := writeL_small (HFT.out k hk1)
        have HLK := Lib.hid (show ((keysF l).take k).length ≤ 1000 by rw [List.length_take, HKL.out]; omega)
        have HLV := HVS.out k
        obtain ⟨xk, hxk⟩ : ∃ x, x = l[k].1 := ⟨_, rfl⟩
        obtain ⟨vk, hvk⟩ : ∃ x, x = l[k].2 := ⟨_, rfl⟩
        rw [← hxk] at x1 HKN
        rw [← hxk, ← hvk] at hw HVN
        rw [← hvk] at y1 h13 h15 hv
        have CW := Lib.hid (fun w (h : Below wr.heap.size wr w) => refWriteN_any xk A1 vk c1 w hv h13 h14 (by exact h15.go h))
        have HXK := Lib.hid hxk
        have HLW := Lib.hid hw
        have HLV := Lib.hid HLV
        have hgw : W.heap.size < wr.heap.size := Nat.lt_of_lt_of_le (Array.getElem?_eq_some_iff.1 HG.out).1 HBV.out.size
        have KEEP := Lib.hid (fun w' (h : Below wr.heap.size wr w') => (show Below wr.heap.size wr w' ∧ w'.cell? ⟨W.heap.size, 1, none⟩ = some (.slice (some ⟨b1, o1, none⟩) n c) ∧ w'.cell? ⟨b1, o1 + k * 2, none⟩ = some (.int .i64 xk) ∧ w'.cell? ⟨b1, o1 + k * 2 + 1, none⟩ = some (.slice A1 vk.length c1) from
          ⟨h, (h.cell (p := ⟨W.heap.size, 1, none⟩) hgw).trans e1, (h.cell (p := ⟨b1, o1 + k * 2, none⟩) hb1).trans x1, (h.cell (p := ⟨b1, o1 + k * 2 + 1, none⟩) hb1).trans y1⟩))
        have BB0 := Lib.hid ((Below.refl wr.heap.size wr).drew)
        generalize writeE xk vk = E1 at *
        generalize writeL xk vk = L1 at *
        generalize vk.length = z1 at *
        clear hxk hvk h13 h14 h15 hv hb1 hw x1 y1
        go_wp2_with fail
        clear e0 e1
        go_region_held3 (fun w' => Below wr.heap.size wr w' ∧ w'.cell? ⟨W.heap.size, 1, none⟩ = some (.slice (some ⟨b1, o1, none⟩) n c) ∧ w'.cell? ⟨b1, o1 + k * 2, none⟩ = some (.int .i64 xk) ∧ w'.cell? ⟨b1, o1 + k * 2 + 1, none⟩ = some (.slice A1 z1 c1))
          (first | with_reducible exact KEEP.out _ BB0.out | with_reducible exact KEEP.out _ BB1.out)
          (first
          | (go_at_call 42; (with_reducible refine (CW.out _ BB0.out).mono ?_); rintro e w2 ⟨⟨A2, c2, rfl, q1, q2, q3, q4⟩, hb⟩; have BB1 := Lib.hid (belG BB0.out hb (by exact Nat.le_refl _)); have RB2 := Lib.hid q3; have HBC := Lib.hid hb; have HQ4 := Lib.hid q4; clear hb q1 q2 q3 q4))
        have HBV2 := Lib.hid (belG HBV.out BB1.out HBV.out.size)
        have HI2 := Lib.hid (OwI.call HI.out.drew HBC.out)
        have HS2 := Lib.hid (Ow.callG HS.out.drew HBC.out)
        have HAP := Lib.hid (show ∀ p, A2 = some p → some p.block ≠ _ from fun p hp e => by
          have h1 := (World.ownsRow.lt HI.out _ e.symm).2
          have h2 : wr.heap.size ≤ p.block := HQ4.out p hp
          omega)
        have HBW2 := Lib.hid (belG HB.out HBV2.out HB.out.size)
        clear HBV HBW BB0 BB1 HI HS KEEP CW HBC HQ4
        have HBV := HBV2
        have HBW := HBW2
        clear HBV2 HBW2
        obtain ⟨e0, e1⟩ := cG2 (oldG HG.out HBV.out (Nat.le_refl _))
        obtain ⟨b1', o1', A1', c1', e9, hb1, x1, -, -, -, -⟩ := (RA.out _ HBW.out).at_ hk1
        cases e9
        rw [← HXK.out] at x1
        clear hb1
        go_wp2_with (first
          | (at_builtin; refine wpList_appI _ rfl (.tmp 41) (.tmp 48) rfl V.heap.size _ ((keysF l).take k) [xk] rfl (by exact HI2.out.alloc _) (some ⟨w2.heap.size, 0, none⟩) 1 1 (w2.heap.size + 1) rfl rfl (by exact rdi_new1 w2 xk) (by have := HLK.out; show _ + 1 ≤ _; omega) (by exact le_alloc HBV.out.size _) ?_; intro v3 w3 hown3 hgrow3; have hb3 := OwI.below (w0 := V) (by exact HI2.out.alloc _) (by exact HBV.out.alloc HBV.out.size _) hgrow3 (by exact le_alloc HBV.out.size _); have HB3 := Lib.hid hb3; have hal := (Below.refl w2.heap.size w2).alloc (Nat.le_refl _) (.cells #[.int .i64 xk] 3); have HS3 := Lib.hid (Ow.keptI (HS2.out.alloc _) (HI2.out.alloc _) hgrow3); have RB3 := Lib.hid (Rd.keptN (RB2.out.go hal) hgrow3 (by exact HAP.out)); rw [← HKN.out] at hown3; have HI3 := Lib.hid hown3; clear hown3 hgrow3 hb3 hal)
          | (at_builtin; refine wpList_appS _ rfl (.tmp 50) (.tmp 51) rfl V.heap.size _ (valsF (l.take k)) L1 rfl (by exact HS3.out) _ _ _ _ rfl rfl (by exact RB3.out) (by have := HLV.out; have := HLW.out; omega) (by exact HB3.out.size) ?_; intro v4 w4 hown4 hgrow4; have hb4 := Ow.below (w0 := V) (by exact HS3.out) HB3.out hgrow4 HB3.out.size; have HB4 := Lib.hid hb4; have HI4 := Lib.hid (OwI.keptS HI3.out HS3.out hgrow4); rw [← HVN.out] at hown4; have HS4 := Lib.hid hown4; clear hown4 hgrow4 hb4))
        go_roundw
        case rel => exact ⟨k + 1, by omega, by go_num, HI4, HS4, HB4⟩
        case measure => simp [intOf]; omega
      · have hki : ¬ (k : Int) < (n : Int) := by omega
        have HTK := Lib.hid (show (keysF l).take k = keysF l from List.take_of_length_le (by rw [HKL.out]; have := HN.out; omega))
        have HTL := Lib.hid (show l.take k = l from List.take_of_length_le (by have := HN.out; omega))
        have hvs := HVS.out k
        rw [HTL.out] at HS hvs
        rw [HTK.out] at HI
        obtain ⟨AI, cI, eI, i1, i2, i3⟩ := HI.out.form
        obtain ⟨AS, cS, eS, s1, s2, s3⟩ := HS.out.form
        subst eI eS
        have CBk := Lib.hid (CB.out wr AI cI i3)
        have RS := Lib.hid s3
        have HVL := Lib.hid hvs
        generalize bmE (keysF l) = EB at *
        generalize bmW (keysF l) = BB at *
        generalize valsF l = VV at *
        generalize (keysF l).length = kn at *
        clear hvs i1 i2 i3 s1 s2 s3 CB HTK HTL HI HS HVS HFT HLB hk hlt RA HKL
        obtain ⟨vn, hvn⟩ : ∃ x, x = VV.length := ⟨_, rfl⟩
        have HVn := Lib.hid hvn
        rw [← hvn]
        clear hvn
        go_wp2_with fail
        refine CBk.out.mono ?_
        rintro e w4 ⟨⟨A4, c4, rfl, p1, p2, p3⟩, hb⟩
        have HBV4 := Lib.hid (belG HBV.out hb HBV.out.size)
        have RS4 := Lib.hid (RS.out.go hb)
        have RB4 := Lib.hid p3
        obtain ⟨e0, e1⟩ := cG2 (oldG HG.out HBV4.out (Nat.le_refl _))
        clear hb CBk RS HBV HBW p1 p2 p3
        go_wp2_with fail
        refine (C4.out _).mono ?_
        rintro e w5 ⟨rfl, hb⟩
        have HBV5 := Lib.hid (belG HBV4.out hb HBV4.out.size)
        have RS5 := Lib.hid (RS4.out.go hb)
        have RB5 := Lib.hid (RB4.out.go hb)
        clear hb e0 e1 HBV4 RS4 RB4 C4
        go_wp2_with fail
        refine (C5.out _).mono ?_
        rintro e w6 ⟨⟨vt, rfl, hot⟩, hb⟩
        have HBV6 := Lib.hid (belG HBV5.out hb HBV5.out.size)
        have RS6 := Lib.hid (RS5.out.below hb (Nat.le_refl _))
        have RB6 := Lib.hid (RB5.out.below hb (Nat.le_refl _))
        have HOT := Lib.hid hot
        have HBS6 := Lib.hid hb.size
        have HBS5 := Lib.hid HBV5.out.size
        obtain ⟨bn, hbn⟩ : ∃ x, x = BB.length := ⟨_, rfl⟩
        have HBn := Lib.hid hbn
        rw [← hbn]
        clear hb hbn RS5 RB5 C5 HBV5 hot
        go_wp2_with (first
          | (at_builtin; refine wpList_appS _ rfl (.tmp 65) (.tmp 66) rfl w5.heap.size _ T4 BB rfl (by exact HOT.out) _ _ _ _ rfl HBn.out (by exact RB6.out) (by have := HT4.out; have := HBS.out; omega) (by exact HBS6.out) ?_; intro v7 w7 hown7 hgrow7; have hb7 := Ow.below (w0 := w6) HOT.out (Below.refl _ _) hgrow7 HBS6.out; have HB7 := Lib.hid hb7; have HO7 := Lib.hid hown7; clear hown7 hgrow7 hb7)
          | (at_builtin; refine wpList_appS _ rfl (.tmp 67) (.tmp 68) rfl w5.heap.size _ (T4 ++ BB) VV rfl (by exact HO7.out) _ _ _ _ rfl HVn.out (by exact RS6.out.below HB7.out (Nat.le_refl _)) (by rw [List.length_append]; have := HT4.out; have := HBS.out; have := HVL.out; omega) (by exact Nat.le_trans HBS6.out HB7.out.size) ?_; intro v8 w8 hown8 hgrow8; have hb8 := Ow.below (w0 := w6) HO7.out HB7.out hgrow8 (Nat.le_trans HBS6.out HB7.out.size); have HB8 := Lib.hid hb8; rw [← HRES.out] at hown8; obtain ⟨A8, c8, e8, r1, r2, r3⟩ := hown8.form; subst e8; have Q1 := Lib.hid r1; have Q2 := Lib.hid r2; have Q3 := Lib.hid r3; clear hown8 hgrow8 hb8 r1 r2 r3))
        go_ret2
        exact ⟨⟨A8, c8, rfl, Q1.out, Q2.out, Q3.out⟩, belG HB.out (HBV6.out.trans (HB8.out.mono HBS5.out)) HB.out.size⟩
  · rw [show isoW t l = [] from if_neg hR, show isoE t l = 1 from if_neg hR]
    rw [decide_eq_false hR] at CR
    clear hR hlb ht hr hn hb hg hV hc hcm
    obtain ⟨e0, e1⟩ := cG2 HG.out
    rw [HV.out] at e0 e1
    go_enter Tryd.func14, Tryd.ntmps14
    go_wp2_with fail
    refine (HV.out ▸ CR.out).mono ?_
    rintro e w1 ⟨rfl, hb⟩
    have HBE := Lib.hid (HB.out.trans ((HV.out ▸ hb).mono HB.out.size))
    clear hb CR HV e0 e1
    go_wp2
    go_ret2
    exact ⟨⟨none, 0, rfl, Nat.le_refl _, by omega, Rd.nil⟩, HBE.out⟩
end Go.Proofs.YtpfjecjfooefoaaDoor
