
/- Package slot: a copy of bytes that is the call's own, bytes laid over it; which bytes are the same; a number's bytes. -/
import Derived.Test.YtfppcmhhbheaiaaDoorJ20
import Derived.Test.YtfppcmhhbheaiaaDoorJ15
import Derived.Laws.CopyOwn
import Derived.LoopN
namespace Go.Proofs.YtfppcmhhbheaiaaDoor
open Go.RowKit

set_option maxRecDepth 100000 in
/-- a row of the call's own -/
theorem Ow.isSomeS {w : World} {B : Nat} {v : Value} {l : List UInt8} (h : Ow w B v l) (h0 : 0 < l.length) : ∃ g c, v = .slice (Option.some ⟨g, 0, none⟩) l.length c ∧ l.length ≤ c ∧ c ≤ 9223372036854775807 ∧ B ≤ g ∧ g < w.heap.size := by
  rcases h.2 with ⟨-, h1⟩ | ⟨g, cap, cur, rfl, hB, hg, h2, h3, -, -⟩
  · omega
  · exact ⟨g, cap, rfl, h2, by unfold maxLen at h3; omega, hB, (Array.getElem?_eq_some_iff.1 hg).1⟩
set_option maxRecDepth 100000 in
theorem Ow.setRowS {w : World} {B k : Nat} {g n c : Nat} {l : List UInt8} (h : Ow w B (.slice (Option.some ⟨g, 0, none⟩) n c) l) (hk : g ≠ k) (C : Array Value) : Ow (w.setRow k C) B (.slice (Option.some ⟨g, 0, none⟩) n c) l := by
  refine ⟨h.1, ?_⟩
  rcases h.2 with ⟨h1, -⟩ | ⟨g', cap, cur, e, hB, hg, hr⟩
  · cases h1
  · refine .inr ⟨g', cap, cur, e, hB, ?_, hr⟩
    simp only [Value.slice.injEq, Option.some.injEq, Addr.mk.injEq] at e
    rw [setRow_other _ _ _ _ (by omega)]
    exact hg
set_option maxRecDepth 100000 in
/-- bytes laid over a row of the call's own -/
theorem run_over (ty : TypeId) (w : World) (B g n c : Nat) (l news : List UInt8) (h : Ow w B (.slice (some ⟨g, 0, none⟩) n c) l) (A : Option Addr) (m d : Nat) (hm : m = news.length) (hr : Rd w w.heap.size A news) (hle : news.length ≤ l.length) :
    ∃ C, (Builtin.copy_ #[22, 22] ty #[.slice (some ⟨g, 0, none⟩) n c, .slice A m d]).run Tryd.prog w = .ok (.int .i64 m) (w.setRow g C) ∧ Ow (w.setRow g C) B (.slice (some ⟨g, 0, none⟩) n c) (news ++ l.drop news.length) := by
  subst hm
  rcases h.2 with ⟨h1, -⟩ | ⟨g', cap, cur, e, hB, hg, h2, h3, h4, h5⟩
  · cases h1
  simp only [Value.slice.injEq, Option.some.injEq, Addr.mk.injEq] at e
  obtain ⟨⟨rfl, -, -⟩, rfl, rfl⟩ := e
  rw [Nat.mul_one] at h4 h5
  have hnl : (news ++ l.drop news.length).length = l.length := by rw [List.length_append, List.length_drop]; omega
  have hcut : cur.toList.drop news.length = (cs l).drop news.length ++ cur.toList.drop l.length := by
    have e1 : cur.toList = cs l ++ cur.toList.drop l.length := by rw [← h5, List.take_append_drop]
    conv => lhs; rw [e1]
    rw [List.drop_append_of_le_length (by rw [cs_length]; exact hle)]
  have hcs : cs (news ++ l.drop news.length) = cs news ++ (cs l).drop news.length := by unfold cs; rw [List.map_append, List.map_drop]
  have hown : Ow (w.setRow g (cs news ++ cur.toList.drop news.length).toArray) B (.slice (some ⟨g, 0, none⟩) l.length c) (news ++ l.drop news.length) := by
    refine ⟨by simp [cs], .inr ⟨g, c, _, by rw [hnl], hB, setRow_heap _ _ _ _ _ _ hg, by rw [hnl]; exact h2, h3, ?_, ?_⟩⟩
    · have h6 : cur.toList.length = c := by rw [Array.length_toList]; exact h4
      rw [List.size_toArray, List.length_append, cs_length, List.length_drop, h6, Nat.mul_one]
      omega
    · show (cs news ++ cur.toList.drop news.length).take _ = _
      rw [hnl, Nat.mul_one, hcut, ← List.append_assoc, ← hcs]
      exact List.take_left' (by rw [cs_length, hnl])
  by_cases h0 : 0 < news.length
  · obtain ⟨b, o, rfl, hb, hcell⟩ := hr h0
    have hrun := run_copy_row (P := Tryd.prog) w 22 22 ty 5 g 0 l.length c ⟨b, o, none⟩ news.length d cur 5 (cs news) Tryd.underlying22 (by kernel_rfl) hg (by rw [cs_length]; exact (Nat.min_eq_left hle).symm)
      (fun j v hv => by
        have hj : j < news.length := by
          have := (List.getElem?_eq_some_iff.1 hv).1
          simpa [cs] using this
        rw [cs_get news j hj] at hv
        rw [Addr.add_lit, hcell j hj]
        exact hv) (by rw [cs_length, h4]; omega) (cs_one news)
    rw [List.take_zero, List.nil_append, Nat.zero_add, cs_length] at hrun
    exact ⟨_, hrun, hown⟩
  · obtain rfl : news = [] := List.eq_nil_of_length_eq_zero (by omega)
    have hrun := run_copy_none (P := Tryd.prog) w 22 22 ty 5 (some ⟨g, 0, none⟩) A l.length c 0 d Tryd.underlying22 (by kernel_rfl) (Nat.min_eq_left (Nat.zero_le _))
    refine ⟨_, ?_, hown⟩
    have e : (cs [] ++ cur.toList.drop (List.length (α := UInt8) [])).toArray = cur := by show (cur.toList.drop 0).toArray = cur; rw [List.drop_zero]
    rw [e, setRowG_id _ _ _ _ _ hg]
    exact hrun
set_option maxRecDepth 100000 in
theorem wp_over {o : Oper} {a : Act} {K : Act → World → Prop} {Q : Exit → Act → World → Prop} (w : World) (s x : Operand)
    (ho : o.op = .call { callee := .builtin .copy, args := #[s, x], argTypes := #[22, 22] })
    (B g n c : Nat) (l news : List UInt8) (A : Option Addr) (m d : Nat) (hs : a.eval s = .slice (some ⟨g, 0, none⟩) n c) (hx : a.eval x = .slice A m d) (h : Ow w B (.slice (some ⟨g, 0, none⟩) n c) l) (hm : m = news.length) (hr : Rd w w.heap.size A news) (hle : news.length ≤ l.length)
    (hK : ∀ C, Ow (w.setRow g C) B (.slice (some ⟨g, 0, none⟩) n c) (news ++ l.drop news.length) → K (a.put o.dst (.int .i64 m)) (w.setRow g C)) : o.wp Tryd.prog a w K Q := by
  obtain ⟨C, hrun, h2⟩ := run_over o.type w B g n c l news h A m d hm hr hle
  unfold Oper.wp execOp
  simp only [ho, resolve, invoke, builtin, Sem.run_bind, Sem.run_pure, Result.andThen_ok, List.map_toArray, List.map_cons, List.map_nil, hs, hx, hrun]
  exact hK C h2
set_option maxRecDepth 100000 in
theorem wpList_over {ops : Array Oper} {rest : List Oper} {o : Oper} {a : Act} {Q : Exit → Act → World → Prop} (w : World) (hw : Region.wanted o (yielded ops a.tmps) = true) (s x : Operand)
    (ho : o.op = .call { callee := .builtin .copy, args := #[s, x], argTypes := #[22, 22] })
    (B g n c : Nat) (l news : List UInt8) (A : Option Addr) (m d : Nat) (hs : a.eval s = .slice (some ⟨g, 0, none⟩) n c) (hx : a.eval x = .slice A m d) (h : Ow w B (.slice (some ⟨g, 0, none⟩) n c) l) (hm : m = news.length) (hr : Rd w w.heap.size A news) (hle : news.length ≤ l.length)
    (hK : ∀ C, Ow (w.setRow g C) B (.slice (some ⟨g, 0, none⟩) n c) (news ++ l.drop news.length) → wpList Tryd.prog ops Q rest (a.put o.dst (.int .i64 m)) (w.setRow g C)) : wpList Tryd.prog ops Q (o :: rest) a w :=
  BigFrame.wpList_want hw fun _ hK' => wp_over w s x ho B g n c l news A m d hs hx h hm hr hle fun C h2 => hK' _ _ (hK C h2)
/-- a call's answer: bytes in a block of the call's own -/
def AnsCl (B : Nat) (W' : World) (e : Ending) (l : List UInt8) : Prop := ∃ g c, e = .returned (.slice (some ⟨g, 0, none⟩) l.length c) ∧ l.length ≤ c ∧ c ≤ 9223372036854775807 ∧ B ≤ g ∧ g < W'.heap.size ∧ Ow W' B (.slice (some ⟨g, 0, none⟩) l.length c) l
set_option maxRecDepth 100000 in
set_option maxHeartbeats 1000000 in
theorem cloneS_any (x : Wkb) (k : List UInt8) (w : World) (h0 : 0 < k.length) (hl : k.length ≤ 50000) (hk : KeyB w x k) :
    Calls Tryd.prog 32 #[.slice x.1 k.length x.2] w fun e w' => AnsCl w.heap.size w' e k ∧ Below w.heap.size w w' := by
  obtain ⟨K, kc⟩ := x
  obtain ⟨b, o, e, hb, -⟩ := hk.2.2 h0
  obtain rfl : K = some ⟨b, o, none⟩ := e
  have hr : Rd w w.heap.size (some ⟨b, o, none⟩) k := hk.2.2
  have H0 := Lib.hid h0
  obtain ⟨n, hn⟩ : ∃ n, n = k.length := ⟨_, rfl⟩
  have HN := Lib.hid hn
  rw [← hn]
  rw [← hn] at hl
  have HB0 := Lib.hid ((Below.refl w.heap.size w).alloc (Nat.le_refl _) (.cells #[] 5))
  have HR := Lib.hid hr
  clear hr hk hn h0 hb
  have he : ∀ W : World, (binOp .eql 22 (.slice (some ⟨b, o, none⟩) n kc) (.slice none 0 0)).run Tryd.prog W = .ok (.bool false) W := fun _ => rfl
  go_enter Tryd.func32, Tryd.ntmps32
  go_wp2_with (at_builtin; (refine wpList_appS _ rfl (.tmp 5) (.tmp 6) rfl w.heap.size _ [] k rfl (by exact Ow.made0 w (Nat.le_refl _)) (some ⟨b, o, none⟩) n kc w.heap.size rfl HN.out (by exact HR.out.below HB0.out (Nat.le_refl _)) (by rw [← HN.out]; simp only [List.length_nil]; omega) (by exact HB0.out.size) ?_); intro v2 w2 hown2 hgrow2; have HB2 := Lib.hid (Ow.below (w0 := w) (by exact Ow.made0 w (Nat.le_refl _)) HB0.out hgrow2 HB0.out.size); rw [List.nil_append] at hown2; obtain ⟨gu, cu, eu, hu1, hu2, hu3, hu4⟩ := hown2.isSomeS H0.out; rw [← HN.out] at eu; subst eu; have HU := Lib.hid hown2; have HU1 := Lib.hid hu1; have HU2 := Lib.hid hu2; have HU3 := Lib.hid hu3; have HU4 := Lib.hid hu4; clear hown2 hgrow2 hu1 hu2 hu3 hu4)
  go_ret
  refine ⟨⟨gu, cu, by rw [HN.out]; rfl, HU1.out, HU2.out, HU3.out, HU4.out, ?_⟩, HB2.out⟩
  have h := HU.out
  rw [HN.out] at h
  exact h
set_option maxRecDepth 100000 in
theorem strS_beq (p q : List UInt8) : ((⟨p.toArray⟩ : ByteArray).toList == (⟨q.toArray⟩ : ByteArray).toList) = decide (p = q) := by
  rw [Bool.eq_iff_iff]
  simp
set_option maxRecDepth 100000 in
set_option maxHeartbeats 1000000 in
theorem equalS_any (x y : Wkb) (p q : List UInt8) (w : World) (ha : KeyB w x p) (hb : KeyB w y q) :
    Calls Tryd.prog 28 #[.slice x.1 p.length x.2, .slice y.1 q.length y.2] w fun e w' => e = .returned (.bool (decide (p = q))) ∧ w = w' := by
  have s1 : (convert 22 9 (.slice x.1 p.length x.2)).run Tryd.prog w = .ok (.string ⟨p.toArray⟩) w := run_str (P := Tryd.prog) ha.2.2 x.2 _ _ _ Tryd.underlying22 Tryd.underlying5 Tryd.underlying9
  have s2 : (convert 22 9 (.slice y.1 q.length y.2)).run Tryd.prog w = .ok (.string ⟨q.toArray⟩) w := run_str (P := Tryd.prog) hb.2.2 y.2 _ _ _ Tryd.underlying22 Tryd.underlying5 Tryd.underlying9
  have hs := strS_beq p q
  generalize decide (p = q) = R at *
  generalize (⟨p.toArray⟩ : ByteArray) = S1 at *
  generalize (⟨q.toArray⟩ : ByteArray) = S2 at *
  clear ha hb
  go_enter Tryd.func28, Tryd.ntmps28
  go_wp2
  go_ret
  exact ⟨rfl, rfl⟩
set_option maxRecDepth 100000 in
set_option maxHeartbeats 1000000 in
theorem bigF_any (n w : Nat) (W : World) (hn : n ≤ 9223372036854775807) (hw1 : 1 ≤ w) (hw2 : w ≤ 8) (hnP : n < 256 ^ w) :
    Calls Tryd.prog 24 #[.int .i64 n, .int .i64 w] W fun e W' => AnsF2 W.heap.size W' e (dgL 0 256 n w) w ∧ Below W.heap.size W W' := by
  have HNP := Lib.hid hnP
  have hmk := run_make_row' (P := Tryd.prog) 22 5 (.int .u8 0) 1 Tryd.underlying22 info5 rfl .i64 .i64 w (by omega) (by omega)
  clear hnP
  go_enter Tryd.func24, Tryd.ntmps24
  go_wp2
  have hrow := World.rowIs_made W (.int .u8 0) w 5
  have hbel : Below W.heap.size W (W.alloc (.cells (madeCells #[.int .u8 0] w) 5)) := (Below.refl _ _).alloc (Nat.le_refl _) _
  clear hmk
  go_loopw [0, 7] (fun q i wr => ∃ (m : Nat) (t : Nat), m ≤ w ∧ i = .int .i64 ((m : Int) - 1) ∧ q = .int .i64 t ∧ Hid (t = n / 256 ^ (w - m)) ∧ t ≤ 9223372036854775807 ∧ wr.rowIs W.heap.size 5 w (rowD 0 256 n w m) ∧ Below W.heap.size W wr) (fun _ i _ => (intOf i + 1).toNat)
  case atStart => exact ⟨w, n, Nat.le_refl _, rfl, rfl, Lib.hid (by simp), hn, hrow.congr (fun i hi => by unfold rowD; rw [if_pos hi]), hbel⟩
  case round =>
    obtain ⟨m, t, hm, rfl, rfl, ht, htb, hr, hb⟩ := hrel
    clear hrow hbel
    by_cases hlt : 1 ≤ m
    · obtain ⟨m, rfl⟩ : ∃ k, m = k + 1 := ⟨m - 1, by omega⟩
      have hc := hr.cell (i := m) (by omega)
      have hf := hr.frozen m
      have e : ((m + 1 : Nat) : Int) - 1 = (m : Int) := by omega
      rw [e]
      have HR := Lib.hid hr
      have HB := Lib.hid hb
      clear hr hb e
      go_wp2
      go_roundw
      case rel =>
        refine ⟨m, t / 256, by omega, rfl, by go_num, Lib.hid ?_, by omega, (HR.out.set m _).congr (fun p hp => ?_), HB.out.setCell (Nat.le_refl _) _⟩
        · rw [ht.out, Nat.div_div_eq_div_mul, ← Nat.pow_succ, show (w - (m + 1)).succ = w - m from by omega]
        · exact rowD_step 0 256 n w m p _ (by
            rw [dgAt_nat 0 256 n w m (by omega) (by omega), show w - 1 - m = w - (m + 1) from by omega, ← ht.out]
            omega)
      case measure => simp [intOf]
    · obtain rfl : m = 0 := by omega
      have e : t = n / 256 ^ w := by rw [ht.out, Nat.sub_zero]
      have ht0 : t = 0 := by rw [e]; exact Nat.div_eq_of_lt HNP.out
      have hsl := Sl.row (l := dgL 0 256 n w) hr (dgL_length _ _ _ _) (by omega) (fun j hj => by rw [dgL_get]; unfold rowD; rw [if_neg (by omega)])
      obtain ⟨A, c, e2, -, -, h3⟩ := hsl
      have hA : A = some ⟨W.heap.size, 0, none⟩ := by injection e2 with e1; exact e1.symm
      rw [hA] at h3
      have HS := Lib.hid h3
      have HB := Lib.hid hb
      subst ht0
      clear hb hr e ht htb e2 h3 hA HNP
      go_wp2
      go_ret2
      exact ⟨⟨_, rfl, Nat.le_refl _, HS.out⟩, HB.out⟩
end Go.Proofs.YtfppcmhhbheaiaaDoor
/- Package slot: Record. -/

namespace Go.Proofs.YtfppcmhhbheaiaaDoor
open Go.RowKit

set_option maxRecDepth 100000 in
set_option maxHeartbeats 4000000 in
theorem proof_any (x : Wkb) (bb : List UInt8) (W : World) (hT : Ks W) (hl : bb.length = 8) (hk : KeyB W x bb) :
    Calls Tryd.prog 25 #[.slice x.1 8 x.2] W fun e W' => (∃ y : Wkb, e = .returned (.slice y.1 8 y.2) ∧ KeyB W' y ((ofF (yettL ++ bb)).take 8)) ∧ Below W.heap.size W W' := by
  obtain ⟨X, xc⟩ := x
  obtain ⟨V, hV⟩ : ∃ V, V = W.alloc (.cells (cs yettL).toArray 5 (4, 5)) := ⟨_, rfl⟩
  have ha := (Below.refl W.heap.size W).alloc (Nat.le_refl _) (.cells (cs yettL).toArray 5 (4, 5))
  have hy := rd_made W yettL (4, 5)
  rw [← hV] at ha hy
  have HBV := Lib.hid ha
  have RBV := Lib.hid ((show Rd W W.heap.size X bb from hk.2.2).go ha)
  have RY := Lib.hid hy
  have HTV := Lib.hid (hT.call ha)
  have HV := Lib.hid (show V = W.alloc (.cells #[.int .u8 121, .int .u8 101, .int .u8 116, .int .u8 116] 5 (4, 5)) from hV)
  have HLB := Lib.hid hl
  have CO := Lib.hid (fun A c w h1 h2 h3 => of_any A (yettL ++ bb) c w (by rw [List.length_append, HLB.out]; decide) h1 h2 h3)
  have HLO := Lib.hid (show (yettL ++ bb).length = 12 from by rw [List.length_append, HLB.out]; rfl)
  rw [HLO.out] at CO
  obtain ⟨so, hso⟩ : ∃ l, l = ofF (yettL ++ bb) := ⟨_, rfl⟩
  rw [← hso] at CO ⊢
  have HLS := Lib.hid (show so.length = 32 from by rw [hso]; exact ofF_len _)
  have kc := fun (w : World) (C : Array Value) (n c : Nat) => Lib.run_convert_bytes_const (P := Tryd.prog) w 22 5 C n c Tryd.underlying22 Tryd.underlying5
  clear hV ha hy hk hT hl hso
  go_enter Tryd.func25, Tryd.ntmps25
  go_wp2_with ((at_builtin; rw [← HV.out]; (refine wpList_appG _ rfl (.tmp 4) (.tmp 5) rfl ⟨W.heap.size, 0, none⟩ yettL bb X 4 8 xc _ _ rfl rfl rfl HLB.out.symm RY.out RBV.out (by decide) (by rw [HLB.out]; decide) (by rw [HLB.out]; decide) ?_); intro v2 w2 hown hb2; have HB2 := Lib.hid (belG HBV.out hb2 HBV.out.size); have HT2 := Lib.hid (HTV.out.call hb2); obtain ⟨A2, c2, e2, q1, q2, q3⟩ := hown.form; rw [HLO.out] at e2 q1; subst e2; have R2 := Lib.hid q3; have Q1 := Lib.hid q1; clear hown hb2 q3 q1 q2))
  refine (CO.out A2 c2 _ Q1.out R2.out HT2.out).mono ?_
  rintro e w5 ⟨⟨A5, c5, rfl, q1, q2, q3⟩, hb⟩
  have HB5 := Lib.hid (belG HB2.out hb HB2.out.size)
  have hcap : (8 : Int) ≤ (c5 : Int) := by omega
  have K5 := Lib.hid (show KeyB w5 (A5, c5) so from ⟨by have h5 := HLS.out; show so.length ≤ c5; omega, q2, q3⟩)
  clear hb q1 q2 q3
  go_wp2_with fail
  go_ret
  exact ⟨⟨(A5, c5), rfl, K5.out.take 8⟩, HB5.out⟩
set_option maxRecDepth 100000 in
set_option maxHeartbeats 4000000 in
theorem record_any (n : Int) (W : World) (hT : Ks W) (_hn : -9223372036854775808 ≤ n ∧ n ≤ 9223372036854775807) : Calls Tryd.prog 9 #[.int .i64 n] W fun e W' => AnsOwB W.heap.size W' e (recordS n).1 (recordS n).2 ∧ Below W.heap.size W W' := by
  by_cases h1 : n < 1
  · have HI := Lib.hid (show recordS n = ([], 1) from by unfold recordS; rw [if_neg (fun h => by have := h.1; omega)])
    clear hT
    go_enter Tryd.func9, Tryd.ntmps9
    go_wp2_with fail
    go_ret2
    exact ⟨by rw [HI.out]; exact ⟨_, rfl, Ow.nil⟩, Below.refl _ _⟩
  by_cases h2 : 4611686018427387904 < n
  · have HI := Lib.hid (show recordS n = ([], 1) from by unfold recordS; rw [if_neg (fun h => by have := h.2; omega)])
    clear hT
    go_enter Tryd.func9, Tryd.ntmps9
    go_wp2_with fail
    go_ret2
    exact ⟨by rw [HI.out]; exact ⟨_, rfl, Ow.nil⟩, Below.refl _ _⟩
  have HI := Lib.hid (show recordS n = (recL n, 0) from by unfold recordS; rw [if_pos ⟨by omega, by omega⟩])
  obtain ⟨k, rfl⟩ := Int.eq_ofNat_of_zero_le (show 0 ≤ n by omega)
  have CB := Lib.hid (fun w => bigF_any k 8 w (by omega) (by decide) (by decide) (by have : (256 : Nat) ^ 8 = 18446744073709551616 := rfl; omega))
  obtain ⟨bb, hbb⟩ : ∃ l, l = dgL 0 256 k 8 := ⟨_, rfl⟩
  rw [← hbb] at CB
  have HLB := Lib.hid (show bb.length = 8 from by rw [hbb]; exact dgL_length _ _ _ _)
  have HRE := Lib.hid (show recL k = bb ++ (ofF (yettL ++ bb)).take 8 from by unfold recL dgS bg8; rw [Int.toNat_natCast, ← hbb])
  have CP := Lib.hid (fun x w h1 h2 => proof_any x bb w h1 HLB.out h2)
  obtain ⟨so, hso⟩ : ∃ l, l = (ofF (yettL ++ bb)).take 8 := ⟨_, rfl⟩
  rw [← hso] at CP HRE
  have HLS := Lib.hid (show so.length = 8 from by rw [hso, List.length_take, ofF_len]; decide)
  have HT := Lib.hid hT
  clear hbb hso hT _hn
  go_enter Tryd.func9, Tryd.ntmps9
  go_wp2_with fail
  refine (CB.out _).mono ?_
  rintro e w1 ⟨⟨gb, rfl, hge, hrd⟩, hb⟩
  have HB1 := Lib.hid hb
  have HT1 := Lib.hid (HT.out.call hb)
  have RB1 := Lib.hid hrd
  clear hge hrd hb CB
  go_wp2_with fail
  refine (CP.out (some ⟨gb, 0, none⟩, 8) _ HT1.out ⟨by rw [HLB.out]; exact Nat.le_refl _, by show 8 ≤ _; decide, RB1.out⟩).mono ?_
  rintro e w2 ⟨⟨⟨Y, yc⟩, rfl, hk⟩, hb⟩
  have HB2 := Lib.hid (belG HB1.out hb HB1.out.size)
  have RB2 := Lib.hid (RB1.out.go hb)
  have RS2 := Lib.hid hk.2.2
  clear hk hb CP
  go_wp2_with (at_builtin; (refine wpList_appG _ rfl (.tmp 17) (.tmp 19) rfl ⟨gb, 0, none⟩ bb so Y 8 8 yc _ _ rfl rfl HLB.out.symm HLS.out.symm RB2.out RS2.out (by rw [HLB.out]; decide) (by rw [HLS.out]; decide) (by rw [HLB.out, HLS.out]; decide) ?_); intro v3 w3 hown hb3; have HB3 := Lib.hid (belG HB2.out hb3 HB2.out.size); have OW3 := Lib.hid (Ow.baseB hown HB2.out.size); clear hown hb3)
  go_ret2
  exact ⟨by rw [HI.out]; exact ⟨_, rfl, by show Ow _ _ _ (recL k); rw [HRE.out]; exact OW3.out⟩, HB3.out⟩
end Go.Proofs.YtfppcmhhbheaiaaDoor
/- Package slot: Good, Best, Right, Same. -/

namespace Go.Proofs.YtfppcmhhbheaiaaDoor
open Go.RowKit

set_option maxRecDepth 100000 in
/-- what a slot's first bytes are taken for -/
theorem taken_any (x : Wkb) (b : List UInt8) (W : World) (hl : b.length ≤ 50000) (hk : KeyB W x b) : ∃ m p f : Int, (-9223372036854775808 ≤ m ∧ m ≤ 9223372036854775807) ∧ goodS b = (if EpS m ∧ recL m = b then (m, true) else (0, false)) ∧
    Calls Tryd.prog 27 #[.slice x.1 b.length x.2, .int .i64 0, .int .i64 8] W fun e W' => e = .returned (.tuple #[.int .i64 m, .int .i64 p, .int .i64 f]) ∧ W = W' := by
  have hno : ¬ (EpS (0 : Int)) := fun h => absurd h.1 (by decide)
  by_cases h8 : b.length < 8
  · refine ⟨0, 0, 3, by decide, ?_, takeBig_short x.1 b.length x.2 0 8 W (by decide) (by decide) (Nat.zero_le _) (by omega) (by omega)⟩
    rw [if_neg (fun h => hno h.1)]
    exact good_len (by omega)
  · have h := takeBig_any x.1 b x.2 0 8 W (by decide) (by decide) (by omega) (by omega) hk.1 hk.2.2
    unfold takeBigV at h
    rw [List.drop_zero] at h
    by_cases hn : numL (b.take 8) ≤ 9223372036854775807
    · rw [if_pos hn] at h
      refine ⟨numS b, _, _, ⟨by unfold numS; omega, by unfold numS; omega⟩, ?_, h⟩
      unfold goodS
      by_cases h5 : EpS (numS b) ∧ recL (numS b) = b
      · rw [if_pos ⟨h5.1, h5.2.symm⟩, if_pos h5]
      · rw [if_neg (fun hg => h5 ⟨hg.1, hg.2.symm⟩), if_neg h5]
    · rw [if_neg hn] at h
      refine ⟨0, _, _, by decide, ?_, h⟩
      rw [if_neg (fun h => hno h.1)]
      unfold goodS
      rw [if_neg (fun hg => by have h1 := hg.1.2; unfold numS at h1; omega)]
set_option maxRecDepth 100000 in
set_option maxHeartbeats 4000000 in
theorem good_any (x : Wkb) (b : List UInt8) (W : World) (hT : Ks W) (hl : b.length ≤ 50000) (hk : KeyB W x b) : Calls Tryd.prog 11 #[.slice x.1 b.length x.2] W fun e W' => e = .returned (.tuple #[.int .i64 (goodS b).1, .bool (goodS b).2]) ∧ Below W.heap.size W W' := by
  obtain ⟨m, p, f, hm, hg, CT⟩ := taken_any x b W hl hk
  have CT := Lib.hid CT
  have CR := Lib.hid (fun w h => record_any m w h hm)
  have HT := Lib.hid hT
  by_cases he : EpS m
  case neg =>
    rw [show recordS m = ([], 1) from by unfold recordS; rw [if_neg he]] at CR
    have HI := Lib.hid (show goodS b = (0, false) from by rw [hg, if_neg (fun h => he h.1)])
    generalize b.length = n at *
    clear hm hg he hl hk hT
    go_enter Tryd.func11, Tryd.ntmps11
    go_wp2_with fail
    refine CT.out.mono ?_
    rintro e w1 ⟨rfl, hw⟩
    obtain rfl := hw
    go_wp2_with fail
    refine (CR.out _ HT.out).mono ?_
    rintro e w1 ⟨⟨v1, rfl, how⟩, hb⟩
    have HB1 := Lib.hid hb
    clear how hb
    go_wp2_with fail
    go_ret2
    exact ⟨by rw [HI.out]; rfl, HB1.out⟩
  rw [show recordS m = (recL m, 0) from by unfold recordS; rw [if_pos he]] at CR
  have CS := Lib.hid (fun u w h k => equalS_any u x (recL m) b w h k)
  have HL := Lib.hid (recL_len m)
  rw [HL.out] at CS
  have RB := Lib.hid hk
  have HI := Lib.hid (show goodS b = if decide (recL m = b) = true then (m, true) else (0, false) from by
    rw [hg]
    by_cases h5 : recL m = b
    · rw [if_pos ⟨he, h5⟩, if_pos (decide_eq_true h5)]
    · rw [if_neg (fun h => h5 h.2), if_neg (by simpa using h5)])
  generalize decide (recL m = b) = R at *
  generalize b.length = n at *
  clear hm hg he hl hk hT
  cases R with
  | false =>
    go_enter Tryd.func11, Tryd.ntmps11
    go_wp2_with fail
    refine CT.out.mono ?_
    rintro e w1 ⟨rfl, hw⟩
    obtain rfl := hw
    go_wp2_with fail
    refine (CR.out _ HT.out).mono ?_
    rintro e w1 ⟨⟨v1, rfl, how⟩, hb⟩
    have HB1 := Lib.hid hb
    have RB1 := Lib.hid (RB.out.go hb)
    obtain ⟨⟨Y, yc⟩, rfl, hk⟩ := how.keyB
    have K1 := Lib.hid hk
    clear how hb hk
    rw [HL.out]
    go_wp2_with fail
    refine (CS.out (Y, yc) _ K1.out RB1.out).mono ?_
    rintro e w2 ⟨rfl, hw⟩
    obtain rfl := hw
    go_wp2_with fail
    go_ret2
    exact ⟨by rw [HI.out]; rfl, HB1.out⟩
  | true =>
    go_enter Tryd.func11, Tryd.ntmps11
    go_wp2_with fail
    refine CT.out.mono ?_
    rintro e w1 ⟨rfl, hw⟩
    obtain rfl := hw
    go_wp2_with fail
    refine (CR.out _ HT.out).mono ?_
    rintro e w1 ⟨⟨v1, rfl, how⟩, hb⟩
    have HB1 := Lib.hid hb
    have RB1 := Lib.hid (RB.out.go hb)
    obtain ⟨⟨Y, yc⟩, rfl, hk⟩ := how.keyB
    have K1 := Lib.hid hk
    clear how hb hk
    rw [HL.out]
    go_wp2_with fail
    refine (CS.out (Y, yc) _ K1.out RB1.out).mono ?_
    rintro e w2 ⟨rfl, hw⟩
    obtain rfl := hw
    go_wp2_with fail
    go_ret2
    exact ⟨by rw [HI.out]; rfl, HB1.out⟩
set_option maxRecDepth 100000 in
set_option maxHeartbeats 4000000 in
theorem epoch_any (x : Wkb) (b : List UInt8) (W : World) (hT : Ks W) (hl : b.length ≤ 50000) (hk : KeyB W x b) : Calls Tryd.prog 31 #[.slice x.1 b.length x.2] W fun e W' => e = .returned (.int .i64 (goodS b).1) ∧ Below W.heap.size W W' := by
  have C := Lib.hid (good_any x b W hT hl hk)
  generalize b.length = n at *
  clear hT hl hk
  go_enter Tryd.func31, Tryd.ntmps31
  go_wp2_with fail
  refine C.out.mono ?_
  rintro e w1 ⟨rfl, hb⟩
  have HB := Lib.hid hb
  clear hb
  go_wp2_with fail
  go_ret
  exact ⟨rfl, HB.out⟩
/-- the better one of two -/
def betS (p q : List UInt8) : Int × Int := if (goodS p).1 < (goodS q).1 then ((goodS q).1, 1) else ((goodS p).1, 0)
set_option maxRecDepth 100000 in
theorem best_bet (s : Sr) : bestS s = ((betS s.a s.b).1, (betS s.a s.b).2, decide ((betS s.a s.b).1 > 0)) := by
  unfold bestS betS
  rcases good_is s.a with ⟨h1, h2⟩ | ⟨h1, h2⟩ <;> rcases good_is s.b with ⟨h3, h4⟩ | ⟨h3, h4⟩
  · rw [h1, h3]
    have e2 := h2.1
    have e4 := h4.1
    by_cases hlt : (goodS s.a).1 < (goodS s.b).1
    · rw [if_pos ⟨rfl, .inr hlt⟩, if_pos hlt]
      show (_, _, true) = (_, _, decide _)
      rw [decide_eq_true (by show (goodS s.b).1 > 0; omega)]
    · rw [if_neg (fun h => by rcases h.2 with h | h; cases h; exact hlt h), if_neg hlt]
      show (_, _, true) = (_, _, decide _)
      rw [decide_eq_true (by show (goodS s.a).1 > 0; omega)]
  · rw [h1, h3, h4]
    have e2 := h2.1
    rw [if_neg (fun h => by cases h.1), if_neg (by omega)]
    show (_, _, true) = (_, _, decide _)
    rw [decide_eq_true (by show (goodS s.a).1 > 0; omega)]
  · rw [h1, h2, h3]
    have e4 := h4.1
    rw [if_pos ⟨rfl, .inl rfl⟩, if_pos (by omega)]
    show (_, _, true) = (_, _, decide _)
    rw [decide_eq_true (by show (goodS s.b).1 > 0; omega)]
  · rw [h1, h2, h3, h4]
    rw [if_neg (fun h => by cases h.1), if_neg (by decide)]
    rfl
set_option maxRecDepth 100000 in
set_option maxHeartbeats 4000000 in
theorem better_any (x y : Wkb) (p q : List UInt8) (W : World) (hT : Ks W) (h1 : p.length ≤ 50000) (h2 : q.length ≤ 50000) (hx : KeyB W x p) (hy : KeyB W y q) : Calls Tryd.prog 30 #[.slice x.1 p.length x.2, .slice y.1 q.length y.2, .func (.func 31) #[] #[]] W fun e W' => e = .returned (.tuple #[.int .i64 (betS p q).1, .int .i64 (betS p q).2]) ∧ Below W.heap.size W W' := by
  have CA := Lib.hid (epoch_any x p W hT h1 hx)
  have CB := Lib.hid (fun w h k => epoch_any y q w h h2 k)
  have HT := Lib.hid hT
  have HY := Lib.hid hy
  have HI : betS p q = (if (goodS p).1 < (goodS q).1 then ((goodS q).1, 1) else ((goodS p).1, 0)) := rfl
  generalize (goodS p).1 = m at *
  generalize (goodS q).1 = k at *
  generalize p.length = i at *
  generalize q.length = j at *
  clear hT h1 h2 hx hy
  by_cases hlt : m < k
  · have HJ := Lib.hid (show betS p q = (k, 1) from by rw [HI, if_pos hlt])
    clear HI
    go_enter Tryd.func30, Tryd.ntmps30
    go_wp2_with fail
    refine CA.out.mono ?_
    rintro e w1 ⟨rfl, hb⟩
    have HB := Lib.hid hb
    have HT1 := Lib.hid (HT.out.call hb)
    have HY1 := Lib.hid (HY.out.go hb)
    clear hb
    go_wp2_with fail
    refine (CB.out _ HT1.out HY1.out).mono ?_
    rintro e w2 ⟨rfl, hb⟩
    have HB2 := Lib.hid (belG HB.out hb HB.out.size)
    clear hb
    go_wp2_with fail
    go_ret2
    exact ⟨by rw [HJ.out]; rfl, HB2.out⟩
  · have HJ := Lib.hid (show betS p q = (m, 0) from by rw [HI, if_neg hlt])
    clear HI
    go_enter Tryd.func30, Tryd.ntmps30
    go_wp2_with fail
    refine CA.out.mono ?_
    rintro e w1 ⟨rfl, hb⟩
    have HB := Lib.hid hb
    have HT1 := Lib.hid (HT.out.call hb)
    have HY1 := Lib.hid (HY.out.go hb)
    clear hb
    go_wp2_with fail
    refine (CB.out _ HT1.out HY1.out).mono ?_
    rintro e w2 ⟨rfl, hb⟩
    have HB2 := Lib.hid (belG HB.out hb HB.out.size)
    clear hb
    go_wp2_with fail
    go_ret2
    exact ⟨by rw [HJ.out]; rfl, HB2.out⟩
set_option maxRecDepth 100000 in
set_option maxHeartbeats 4000000 in
theorem best_any (x : Wt) (s : Sr) (W : World) (hT : Ks W) (h1 : s.a.length ≤ 50000) (h2 : s.b.length ≤ 50000) (hx : StR W x s) : Calls Tryd.prog 20 #[.agg (storC x s)] W fun e W' => e = .returned (.tuple #[.int .i64 (bestS s).1, .int .i64 (bestS s).2.1, .bool (bestS s).2.2]) ∧ Below W.heap.size W W' := by
  obtain ⟨V, hV, hb, hg⟩ := bx1 W 24 (storC x s)
  have HV := Lib.hid hV
  have HB := Lib.hid hb
  have G := Lib.hid hg
  have xa := hg.cell (storC_a x s)
  have xb := hg.cell (storC_b x s)
  have C := Lib.hid (better_any x.a x.b s.a s.b V (hT.call hb) h1 h2 (hx.1.go hb) (hx.2.go hb))
  have HI := Lib.hid (best_bet s)
  obtain ⟨K, hK⟩ : ∃ C, C = storC x s := ⟨_, rfl⟩
  rw [← hK] at HV G ⊢
  generalize (betS s.a s.b).1 = m at *
  generalize (betS s.a s.b).2 = k at *
  generalize s.a.length = i at *
  generalize s.b.length = j at *
  clear hV hb hg hT hx h1 h2 hK
  go_enter Tryd.func20, Tryd.ntmps20
  go_upto_region 1 with (fail)
  rw [← HV.out]
  go_wp2_with fail
  refine C.out.mono ?_
  rintro e w1 ⟨rfl, hb⟩
  have HB2 := Lib.hid (belG HB.out hb HB.out.size)
  clear hb xa xb
  go_wp2_with fail
  go_ret3
  exact ⟨by rw [HI.out]; rfl, HB2.out⟩
end Go.Proofs.YtfppcmhhbheaiaaDoor
