
/- bytes.Equal, slices.EqualFunc at fields; package iso: Same. -/
import Derived.Test.YtpfjecjfooefoaaDoorJ17
import Derived.Test.YtpfjecjfooefoaaDoorJ37
import Derived.Test.YtpfjecjfooefoaaDoorJ38
import Derived.Test.YtpfjecjfooefoaaDoorJ33
import Derived.Test.YtpfjecjfooefoaaDoorJ26
import Derived.Test.YtpfjecjfooefoaaDoorJ29
import Derived.Test.YtpfjecjfooefoaaDoorJ27
namespace Go.Proofs.YtpfjecjfooefoaaDoor
open Go.RowKit

set_option maxRecDepth 100000 in
theorem str_beqF (p q : List UInt8) : ((⟨p.toArray⟩ : ByteArray).toList == (⟨q.toArray⟩ : ByteArray).toList) = decide (p = q) := by
  rw [Bool.eq_iff_iff]
  simp
set_option maxRecDepth 100000 in
set_option maxHeartbeats 1000000 in
theorem bytesEqF_any (A B : Option Addr) (p q : List UInt8) (ca cb BA BB : Nat) (w : World) (ha : Rd w BA A p) (hb : Rd w BB B q) :
    Calls Tryd.prog 52 #[.slice A p.length ca, .slice B q.length cb] w fun e w' => e = .returned (.bool (decide (p = q))) ∧ w = w' := by
  have s1 : (convert 27 9 (.slice A p.length ca)).run Tryd.prog w = .ok (.string ⟨p.toArray⟩) w := run_str (P := Tryd.prog) ha ca _ _ _ Tryd.underlying27 Tryd.underlying5 Tryd.underlying9
  have s2 : (convert 27 9 (.slice B q.length cb)).run Tryd.prog w = .ok (.string ⟨q.toArray⟩) w := run_str (P := Tryd.prog) hb cb _ _ _ Tryd.underlying27 Tryd.underlying5 Tryd.underlying9
  have hs := str_beqF p q
  generalize decide (p = q) = R at *
  generalize (⟨p.toArray⟩ : ByteArray) = S1 at *
  generalize (⟨q.toArray⟩ : ByteArray) = S2 at *
  clear ha hb
  go_enter Tryd.func52, Tryd.ntmps52
  go_wp2
  go_ret
  exact ⟨rfl, rfl⟩
set_option maxRecDepth 100000 in
set_option maxHeartbeats 1000000 in
theorem sameF_any (x y : Int) (A B : Option Addr) (p q : List UInt8) (ca cb : Nat) (W : World) (ha : Rd W W.heap.size A p) (hb : Rd W W.heap.size B q) :
    Calls Tryd.prog 51 #[.agg #[.int .i64 x, .slice A p.length ca], .agg #[.int .i64 y, .slice B q.length cb]] W fun e W' => e = .returned (.bool (x == y && decide (p = q))) ∧ Below W.heap.size W W' := by
  obtain ⟨V, hV, hbb, g1, g2⟩ := box2 W #[.int .i64 x, .slice A p.length ca] #[.int .i64 y, .slice B q.length cb] 60 60
  have CE := Lib.hid (bytesEqF_any A B p q ca cb V.heap.size V.heap.size V (ha.go hbb) (hb.go hbb))
  obtain ⟨e0, e1⟩ := cG2 g1
  obtain ⟨f0, f1⟩ := cG2 g2
  have HB := Lib.hid hbb
  have HV := Lib.hid hV
  generalize decide (p = q) = R at *
  generalize p.length = n at *
  generalize q.length = m at *
  rw [hV] at e0 e1 f0 f1
  clear hV hbb g1 g2 ha hb
  obtain ⟨X, hX⟩ : ∃ X, X = (x == y) := ⟨_, rfl⟩
  rw [← hX]
  have d := hX.symm
  clear hX
  cases X with
  | false =>
    go_enter Tryd.func51, Tryd.ntmps51
    go_wp2
    go_ret
    exact ⟨rfl, by rw [← HV.out]; exact HB.out⟩
  | true =>
    go_enter Tryd.func51, Tryd.ntmps51
    go_wp2_with fail
    rw [← HV.out]
    refine CE.out.mono ?_
    rintro e w1 ⟨rfl, rfl⟩
    go_wp2
    go_ret
    exact ⟨rfl, HB.out⟩
set_option maxRecDepth 100000 in
set_option maxHeartbeats 2000000 in
theorem equalF_any (A C : Option Addr) (l l2 : List Fl) (c d : Nat) (w : World) (h1 : l.length ≤ 1000) (h2 : l2.length ≤ 1000) (hT : RdF w w.heap.size A l) (hT2 : RdF w w.heap.size C l2) :
    Calls Tryd.prog 50 #[.slice A l.length c, .slice C l2.length d, .func (.func 51) #[] #[]] w fun e w' => e = .returned (.bool (decide (l = l2))) ∧ Below w.heap.size w w' := by
  obtain ⟨n, hn⟩ : ∃ n, n = l.length := ⟨_, rfl⟩
  obtain ⟨m, hm⟩ : ∃ m, m = l2.length := ⟨_, rfl⟩
  obtain ⟨R, hR⟩ : ∃ R, R = decide (l = l2) := ⟨_, rfl⟩
  have HR := Lib.hid hR
  rw [← hR, ← hn, ← hm]
  rw [← hn] at h1
  rw [← hm] at h2
  have R1 := Lib.hid (fun w' (h : Below w.heap.size w w') => hT.go h)
  have R2 := Lib.hid (fun w' (h : Below w.heap.size w w') => hT2.go h)
  by_cases hnm : n = m
  · subst hnm
    have HN := Lib.hid hn
    have HM := Lib.hid hm
    clear hT hT2 hn hm hR h2
    go_enter Tryd.func50, Tryd.ntmps50
    go_wp2
    go_loopw [17] (fun i wr => ∃ j : Nat, j ≤ n ∧ i = .int .i64 j ∧ Hid (l.take j = l2.take j) ∧ Hid (Below w.heap.size w wr)) (fun i _ => n - (intOf i).toNat)
    case atStart => exact ⟨0, by omega, rfl, Lib.hid (by simp), Lib.hid (Below.refl _ _)⟩
    case round =>
      obtain ⟨j, hj, rfl, HT, HB⟩ := hrel
      by_cases hlt : j < n
      · have hj1 : j < l.length := by have := HN.out; omega
        have hj2 : j < l2.length := by have := HM.out; omega
        obtain ⟨b1, o1, A1, c1, rfl, hb1, x1, y1, -, -, q3⟩ := (R1.out _ HB.out).at_ hj1
        obtain ⟨b2, o2, A2, c2, rfl, hb2, x2, y2, -, -, s3⟩ := (R2.out _ HB.out).at_ hj2
        obtain ⟨V, hV, hb, g1, g2⟩ := box2 wr #[.int .i64 l[j].1, .slice A1 l[j].2.length c1] #[.int .i64 l2[j].1, .slice A2 l2[j].2.length c2] 60 60
        have CA := Lib.hid (sameF_any l[j].1 l2[j].1 A1 A2 l[j].2 l2[j].2 c1 c2 V (q3.go hb) (s3.go hb))
        have HTN := Lib.hid (show l[j] = l2[j] → l.take (j + 1) = l2.take (j + 1) from fun h => by
          rw [List.take_succ_eq_append_getElem hj1, List.take_succ_eq_append_getElem hj2, HT.out, h])
        have HNE := Lib.hid (show ¬ l[j] = l2[j] → R = false from fun hne => by
          rw [HR.out]
          refine decide_eq_false (fun h => hne ?_)
          subst h
          rfl)
        have HEQ := Lib.hid (show (l[j].1 == l2[j].1 && decide (l[j].2 = l2[j].2)) = true ↔ l[j] = l2[j] by
          rw [Bool.and_eq_true, beq_iff_eq, decide_eq_true_iff]
          exact ⟨fun h => Prod.ext h.1 h.2, fun h => by rw [h]; exact ⟨rfl, rfl⟩⟩)
        obtain ⟨e0, e1⟩ := cG2 g1
        obtain ⟨f0, f1⟩ := cG2 g2
        obtain ⟨k0, k1⟩ := cG2 (heap_alloc_new wr (.cells #[.int .i64 l[j].1, .slice A1 l[j].2.length c1] 60))
        have hal := (Below.refl wr.heap.size wr).alloc (Nat.le_refl _) (.cells #[.int .i64 l[j].1, .slice A1 l[j].2.length c1] 60)
        have x3 := (hal.cell (p := ⟨b2, o2 + j * 2, none⟩) hb2).trans x2
        have y3 := (hal.cell (p := ⟨b2, o2 + j * 2 + 1, none⟩) hb2).trans y2
        have HB2 := Lib.hid (belG HB.out hb HB.out.size)
        have HV := Lib.hid hV
        rw [hV] at e0 e1 f0 f1
        clear hb g1 g2 hV q3 s3 hal HT
        obtain ⟨S, hS⟩ : ∃ S, S = (l[j].1 == l2[j].1 && decide (l[j].2 = l2[j].2)) := ⟨_, rfl⟩
        rw [← hS] at CA HEQ
        generalize l[j] = p at *
        generalize l2[j] = q at *
        generalize p.1 = p1 at *
        generalize q.1 = q1 at *
        generalize p.2.length = n1 at *
        generalize q.2.length = n2 at *
        clear hS
        have hji : (j : Int) < (n : Int) := by omega
        have hj0 : (0 : Int) ≤ (j : Int) := Int.natCast_nonneg _
        cases S with
        | true =>
          have HTQ := Lib.hid (HTN.out (HEQ.out.1 rfl))
          clear HTN HNE HEQ
          go_wp2_with fail
          rw [← HV.out]
          refine CA.out.mono ?_
          rintro e w3 ⟨rfl, hb3⟩
          have HB3 := Lib.hid (belG HB2.out hb3 HB2.out.size)
          clear hb3
          go_wp2
          go_roundw
          case rel => exact ⟨j + 1, by omega, by go_num, HTQ, HB3⟩
          case measure => simp [intOf]; omega
        | false =>
          have HRF := Lib.hid (HNE.out (fun h => by have := HEQ.out.2 h; exact absurd this (by decide)))
          clear HTN HNE HEQ
          go_wp2_with fail
          rw [← HV.out]
          refine CA.out.mono ?_
          rintro e w3 ⟨rfl, hb3⟩
          have HB3 := Lib.hid (belG HB2.out hb3 HB2.out.size)
          clear hb3
          go_wp2
          go_ret
          exact ⟨by rw [HRF.out]; rfl, HB3.out⟩
      · have hjn : j = n := by omega
        have hRt : R = true := by
          rw [HR.out]
          have h := HT.out
          rw [List.take_of_length_le (by have := HN.out; omega), List.take_of_length_le (by have := HM.out; omega)] at h
          exact decide_eq_true h
        have HRT := Lib.hid hRt
        have hji : ¬ (j : Int) < (n : Int) := by omega
        clear hRt
        go_wp2
        go_ret
        exact ⟨by rw [HRT.out]; rfl, HB.out⟩
  · have hRf : R = false := by
      rw [hR]
      exact decide_eq_false (fun h => hnm (by rw [hn, hm, h]))
    rw [hRf]
    have hni : ¬ (n : Int) = (m : Int) := by omega
    clear hT hT2 hn hm hR HR hRf
    go_enter Tryd.func50, Tryd.ntmps50
    go_wp2
    go_ret
    exact ⟨rfl, Below.refl _ _⟩

set_option maxRecDepth 100000 in
set_option maxHeartbeats 2000000 in
theorem iSameB_any (t1 t2 : Int) (A B : Option Addr) (l m : List Fl) (c d : Nat) (W : World) (_h1 : I64b t1) (_h2 : I64b t2) (hk : OkM l) (hk2 : OkM m) (_hc : l.length ≤ c) (_hcm : c ≤ 9223372036854775807) (hr : RdF W W.heap.size A l) (_hd : m.length ≤ d) (_hdm : d ≤ 9223372036854775807) (hs : RdF W W.heap.size B m) :
    Calls Tryd.prog 20 #[.agg #[.int .i64 t1, .slice A l.length c], .agg #[.int .i64 t2, .slice B m.length d]] W fun e W' => e = .returned (.bool (decide (t1 = t2 ∧ l = m))) ∧ Below W.heap.size W W' := by
  obtain ⟨V, hV, hbb, g1, g2⟩ := box2 W #[.int .i64 t1, .slice A l.length c] #[.int .i64 t2, .slice B m.length d] 24 24
  have CE := Lib.hid (equalF_any A B l m c d V (by have := hk.len; omega) (by have := hk2.len; omega) (hr.go hbb) (hs.go hbb))
  obtain ⟨e0, e1⟩ := cG2 g1
  obtain ⟨f0, f1⟩ := cG2 g2
  have HB := Lib.hid hbb
  have HV := Lib.hid hV
  have he : decide (t1 = t2 ∧ l = m) = (t1 == t2 && decide (l = m)) := by
    rw [Bool.eq_iff_iff]
    simp
  rw [he]
  generalize decide (l = m) = R at *
  generalize l.length = n at *
  generalize m.length = q at *
  rw [hV] at e0 e1 f0 f1
  clear hV hbb g1 g2 hr hs _h1 _h2 hk hk2 _hc _hcm _hd _hdm he
  obtain ⟨X, hX⟩ : ∃ X, X = (t1 == t2) := ⟨_, rfl⟩
  rw [← hX]
  have d := hX.symm
  clear hX
  cases X with
  | false =>
    go_enter Tryd.func20, Tryd.ntmps20
    go_wp2
    go_ret
    exact ⟨rfl, by rw [← HV.out]; exact HB.out⟩
  | true =>
    go_enter Tryd.func20, Tryd.ntmps20
    go_wp2_with fail
    rw [← HV.out]
    refine CE.out.mono ?_
    rintro e w1 ⟨rfl, hb⟩
    have HB1 := Lib.hid (belG HB.out hb HB.out.size)
    clear hb
    go_wp2
    go_ret
    exact ⟨rfl, HB1.out⟩
end Go.Proofs.YtpfjecjfooefoaaDoor
/- Package iso: what each call answers (iType_any, iClass_any, iReply_any, iRight_any, iWrite_any, iRead_any, iGet_any, iSet_any, iDrop_any, iSame_any). -/

namespace Go.Proofs.YtpfjecjfooefoaaDoor
open Go.RowKit

set_option maxRecDepth 100000 in
theorem iType_any (n : Int) (hn : I64b n) (W : World) (_hT : Tb W) :
    Calls Tryd.prog 22 #[.int .i64 n] W fun e W' => e = .returned (.bool (typeF n)) ∧ Below W.heap.size W W' := iTypeB_any n hn W
set_option maxRecDepth 100000 in
theorem iClass_any (n : Int) (hn : I64b n) (W : World) (_hT : Tb W) :
    Calls Tryd.prog 24 #[.int .i64 n] W fun e W' => e = .returned (.int .i64 (classF n)) ∧ Below W.heap.size W W' := iClassB_any n hn W
set_option maxRecDepth 100000 in
theorem iReply_any (n : Int) (hn : I64b n) (W : World) (_hT : Tb W) :
    Calls Tryd.prog 15 #[.int .i64 n] W fun e W' => e = .returned (.tuple #[.int .i64 (replyI n), .bool (replyY n)]) ∧ Below W.heap.size W W' := iReplyB_any n hn W
set_option maxRecDepth 100000 in
theorem iSame_any (t1 t2 : Int) (A B : Option Addr) (l m : List Fl) (c d : Nat) (W : World) (h1 : I64b t1) (h2 : I64b t2) (hk : OkM l) (hk2 : OkM m) (hc : l.length ≤ c) (hcm : c ≤ 9223372036854775807) (hr : RdF W W.heap.size A l) (hd : m.length ≤ d) (hdm : d ≤ 9223372036854775807) (hs : RdF W W.heap.size B m) (_hT : Tb W) :
    Calls Tryd.prog 20 #[.agg #[.int .i64 t1, .slice A l.length c], .agg #[.int .i64 t2, .slice B m.length d]] W fun e W' => e = .returned (.bool (decide (t1 = t2 ∧ l = m))) ∧ Below W.heap.size W W' := iSameB_any t1 t2 A B l m c d W h1 h2 hk hk2 hc hcm hr hd hdm hs
end Go.Proofs.YtpfjecjfooefoaaDoor
/- Messages of few fields, plain: what the calls' premises ask. -/

namespace Go.Proofs.YtpfjecjfooefoaaDoor
open Go.RowKit

set_option maxRecDepth 100000 in
theorem u16_bd5 {a : Int} (h : (Lit.int .u16 a).wf = true) : 0 ≤ a ∧ a ≤ 65535 := by
  simpa [Lit.wf, IntKind.min, IntKind.max, IntKind.signed, IntKind.bits] using h
set_option maxRecDepth 100000 in
theorem okM_nil : OkM [] := ⟨by simp, fun x hx => absurd hx (by simp), fun x hx => absurd hx (by simp)⟩
set_option maxRecDepth 100000 in
theorem few_parts {l : List Fl} (h : fewF l = true) : l.length ≤ 40 ∧ ∀ x ∈ l, x.2.length ≤ 450 := by
  unfold fewF at h
  rw [Bool.and_eq_true, decide_eq_true_iff, List.all_eq_true] at h
  exact ⟨h.1, fun x hx => of_decide_eq_true (h.2 x hx)⟩
set_option maxRecDepth 100000 in
theorem few_ok {l : List Fl} (h : fewF l = true) (hz : I64f l) : OkM l := by
  obtain ⟨h1, h2⟩ := few_parts h
  exact ⟨by omega, hz, fun x hx => by have := h2 x hx; omega⟩
set_option maxRecDepth 100000 in
theorem read_okM (b : List UInt8) : OkM (readMg b).2.1 ∧ I64b (readMg b).1 := by
  by_cases h : (readMg b).2.2 = 0
  · have h1 := (iso_ok b h).1
    exact ⟨h1.ok, h1.tb⟩
  · obtain ⟨h1, h2⟩ := iso_bad b h
    rw [h1, h2]
    exact ⟨okM_nil, by unfold I64b; omega⟩
set_option maxRecDepth 100000 in
theorem setM_right {t : Int} {l : List Fl} {no : Int} {v : List UInt8} (h : RightM t l) : RightM t (setM l no v) := by
  unfold setM
  split
  · rename_i hv; exact setL_right h hv
  · exact h
set_option maxRecDepth 100000 in
theorem isoW_right {t : Int} {l : List Fl} (h : RightM t l) : isoW t l = isoM t l ∧ isoE t l = 0 := ⟨if_pos h, if_pos h⟩
set_option maxRecDepth 100000 in
theorem isoW_no {t : Int} {l : List Fl} (h : ¬ RightM t l) : isoW t l = [] ∧ isoE t l = 1 := ⟨if_neg h, if_neg h⟩
set_option maxRecDepth 100000 in
theorem isoM_len {t : Int} {l : List Fl} (h : RightM t l) : 10 ≤ (isoM t l).length ∧ (isoM t l).length ≤ 18 + 1000 * l.length := by
  obtain ⟨h1, h2⟩ := iso_head h
  have hs := sizeB_or (wideF (keysF l))
  have hv := valsF_small l (fun x hx => by obtain ⟨j, hj, rfl⟩ := List.getElem_of_mem hx; exact (h.2 j hj).1)
  rw [h1, List.length_append, List.length_append, h2, writeB_length]
  omega
set_option maxRecDepth 100000 in
theorem isoW_len (t : Int) (l : List Fl) : (isoW t l).length ≤ 18 + 1000 * l.length := by
  by_cases h : RightM t l
  · rw [(isoW_right h).1]; exact (isoM_len h).2
  · rw [(isoW_no h).1]; exact Nat.zero_le _
end Go.Proofs.YtpfjecjfooefoaaDoor
