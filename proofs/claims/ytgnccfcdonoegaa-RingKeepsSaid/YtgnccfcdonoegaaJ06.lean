
/- Package ring: own, begun, gens. -/
import Derived.Test.YtgnccfcdonoegaaJ05
namespace Go.Proofs.Ytgnccfcdonoegaa
open Go.RowKit

set_option maxRecDepth 100000 in
theorem tyWork : Ty 66 8 := ⟨⟨_, Try.underlying66, rfl⟩, by kernel_rfl⟩
set_option maxRecDepth 100000 in
theorem tyG3 : Ty 68 6 := ⟨⟨_, Try.underlying68, rfl⟩, by kernel_rfl⟩
set_option maxRecDepth 100000 in
theorem genC_cn (x : Wk) (g : Gn) : (genC x g)[0]? = some (.int .i64 g.no) := rfl
set_option maxRecDepth 100000 in
theorem genC_ck (x : Wk) (g : Gn) : (genC x g)[1]? = some (.slice x.1 g.key.length x.2) := rfl
def gensC (x : Wg) (r : Rg) : Array Value := #[.int .i64 r.old.no, .slice x.old.1 r.old.key.length x.old.2, .int .i64 r.cur.no, .slice x.cur.1 r.cur.key.length x.cur.2, .int .i64 r.pend.no, .slice x.pend.1 r.pend.key.length x.pend.2]
set_option maxRecDepth 100000 in
theorem gensC_one (x : Wg) (r : Rg) : (gensC x r).all (·.oneCell') = true := by simp [gensC, Value.oneCell']
set_option maxRecDepth 100000 in
theorem Below.drew' {B : Nat} {a w : World} (h : Below B a w) : Below B a w.drew := h.drew
/-- no cell is a byte -/
def No8 (C : Array Value) : Prop := ∀ v ∈ C.toList, ∀ n, v ≠ .int .u8 n
set_option maxRecDepth 100000 in
theorem Rd.putX {w : World} {g o : Nat} {T : TypeId} {C : Array Value} {A : Option Addr} {l : List UInt8} (h : Rd w w.heap.size A l) (hg : Bx w g T C) (hn : No8 C) (D : List Value) : Rd (w.setCells g o D) (w.setCells g o D).heap.size A l := by
  intro h0
  obtain ⟨b, q, rfl, hb, hc⟩ := h h0
  have hne : b ≠ g := by
    rintro rfl
    have h1 := hc 0 h0
    rw [Nat.add_zero] at h1
    have h2 := (cell_of_row w b q C T (0, 0) hg).symm.trans h1
    rw [← Array.getElem?_toList] at h2
    exact hn _ (List.mem_of_getElem? h2) _ rfl
  have hs : ∀ (D : List Value) (o : Nat) (w : World), (w.setCells g o D).heap.size = w.heap.size := by
    intro D
    induction D with
    | nil => intro o w; rfl
    | cons v r ih => intro o w; rw [World.setCells, ih]; simp [World.setCell]
  exact ⟨b, q, rfl, by rw [hs]; exact hb, fun j hj => by rw [World.cell?_of_block (w := w) (a := ⟨b, q + j, none⟩) (setCells_block g D o w b hne)]; exact hc j hj⟩
set_option maxRecDepth 100000 in
theorem Rd.setRowX {w : World} {g : Nat} {T : TypeId} {C C' : Array Value} {A : Option Addr} {l : List UInt8} (h : Rd w w.heap.size A l) (hg : Bx w g T C) (hn : No8 C) : Rd (w.setRow g C') (w.setRow g C').heap.size A l := by
  intro h0
  obtain ⟨b, o, rfl, hb, hc⟩ := h h0
  have hne : b ≠ g := by
    rintro rfl
    have h1 := hc 0 h0
    rw [Nat.add_zero] at h1
    have h2 := (cell_of_row w b o C T (0, 0) hg).symm.trans h1
    rw [← Array.getElem?_toList] at h2
    exact hn _ (List.mem_of_getElem? h2) _ rfl
  have hs : (w.setRow g C').heap.size = w.heap.size := by simp [World.setRow]
  exact ⟨b, o, rfl, by rw [hs]; exact hb, fun j hj => by rw [World.cell?_of_block (w := w) (a := ⟨b, o + j, none⟩) (setRow_other w g b C' hne)]; exact hc j hj⟩
set_option maxRecDepth 100000 in
theorem no8_ring (x : Wg) (r : Rg) : No8 (ringC x r) := by
  intro v hv n
  simp only [ringC, List.mem_cons, List.not_mem_nil, or_false] at hv
  rcases hv with rfl | rfl | rfl | rfl | rfl | rfl | rfl | rfl <;> intro h <;> cases h
set_option maxRecDepth 100000 in
theorem no8_gen (x : Wk) (g : Gn) : No8 (genC x g) := by
  intro v hv n
  simp only [genC, List.mem_cons, List.not_mem_nil, or_false] at hv
  rcases hv with rfl | rfl <;> intro h <;> cases h
set_option maxRecDepth 100000 in
theorem KeyR.setRow {w : World} {g : Nat} {T : TypeId} {C C' : Array Value} {x : Wk} {l : List UInt8} (k : KeyR w x l) (hg : Bx w g T C) (hn : No8 C) : KeyR (w.setRow g C') x l := ⟨k.1, k.2.1, k.2.2.setRowX hg hn⟩
set_option maxRecDepth 100000 in
theorem RingR.setRow {w : World} {g : Nat} {T : TypeId} {C C' : Array Value} {x : Wg} {r : Rg} (k : RingR w x r) (hg : Bx w g T C) (hn : No8 C) : RingR (w.setRow g C') x r := ⟨k.1.setRow hg hn, k.2.1.setRow hg hn, k.2.2.setRow hg hn⟩
set_option maxRecDepth 100000 in
theorem KeyR.putX {w : World} {g : Nat} {T : TypeId} {C : Array Value} {x : Wk} {l : List UInt8} (k : KeyR w x l) (hg : Bx w g T C) (hn : No8 C) (o : Nat) (D : List Value) : KeyR (w.setCells g o D) x l := ⟨k.1, k.2.1, k.2.2.putX hg hn D⟩
set_option maxRecDepth 100000 in
theorem RingR.putX {w : World} {g : Nat} {T : TypeId} {C : Array Value} {x : Wg} {r : Rg} (k : RingR w x r) (hg : Bx w g T C) (hn : No8 C) (o : Nat) (D : List Value) : RingR (w.setCells g o D) x r := ⟨k.1.putX hg hn o D, k.2.1.putX hg hn o D, k.2.2.putX hg hn o D⟩
set_option maxRecDepth 100000 in
/-- a struct is stored, alone -/
theorem wp_storeX {o : Oper} {a : Act} {K : Act → World → Prop} {Q : Exit → Act → World → Prop} {W : World} {T : TypeId} {n : Nat} (p y : Operand) (g : Nat) (C old : Array Value) (ty : Ty T n) (hn : C.size = n) (h1 : C.all (·.oneCell') = true)
    (hg : Bx W g T old) (hold : old.size = n) (ho : o.op = .store T p y) (hx : a.eval p = .pointer (some ⟨g, 0, none⟩)) (hy : a.eval y = .agg C)
    (hK : K (a.put o.dst undef) (W.setRow g C)) : Oper.wp Try.prog o a W K Q :=
  wp_store_row T p y ho g C hx hy T old hg (by rw [hn]; exact ty.size) (by rw [hn]; exact hold) h1 hK
set_option maxRecDepth 100000 in
/-- a part is loaded, stored, alone -/
theorem wp_loadPw {op : Oper} {a : Act} {K : Act → World → Prop} {Q : Exit → Act → World → Prop} {W : World} {T U : TypeId} {m : Nat} (p : Operand) (g o : Nat) (C D : Array Value) (ty : Ty U m) (hm : D.size = m) (hP : Part C o D)
    (hg : Bx W g T C) (ho : op.op = .load U p) (hx : a.eval p = .pointer (some ⟨g, o, none⟩)) (hK : K (a.put op.dst (.agg D)) W) : Oper.wp Try.prog op a W K Q := by
  obtain ⟨⟨d, hu, hd⟩, hs⟩ := ty
  refine wp_load_mid (P := Try.prog) U p ho g o hx D.toList d (hg.range hP) hu hd (by rw [Array.length_toList, hm]; exact hs) ?_
  simpa using hK
set_option maxRecDepth 100000 in
theorem wp_storePw {op : Oper} {a : Act} {K : Act → World → Prop} {Q : Exit → Act → World → Prop} {W : World} {T U : TypeId} {m : Nat} (p y : Operand) (g o : Nat) (C D : Array Value) (ty : Ty U m) (hm : D.size = m) (h1 : D.all (·.oneCell') = true)
    (hg : Bx W g T C) (hC : o + m ≤ C.size) (ho : op.op = .store U p y) (hx : a.eval p = .pointer (some ⟨g, o, none⟩)) (hy : a.eval y = .agg D) (hK : K (a.put op.dst undef) (W.setCells g o D.toList)) : Oper.wp Try.prog op a W K Q := by
  refine wp_store_mid (P := Try.prog) U p y ho g o D hx hy (fun j hj => ?_) (by rw [hm]; exact ty.size) h1 hK
  refine ⟨?_, hg.thaw _⟩
  rw [hg.cell (Array.getElem?_eq_getElem (show o + j < C.size by omega))]
  rfl
set_option maxRecDepth 100000 in
/-- a struct that is all of another one is built -/
theorem buildW (C : Array Value) (h : C.size = 8) : Array.foldl (fun (cs : Array Value) (x : Value × Nat) => cs.setIfInBounds x.snd x.fst)
    #[.int .i64 0, .slice none 0 0, .int .i64 0, .slice none 0 0, .int .i64 0, .slice none 0 0, .int .i64 0, .int .i64 0] C.zipIdx 0 C.size = C := by
  obtain ⟨l⟩ := C
  match l, h with
  | [a, b, c, d, e, f, g, i], _ => simp [List.zipIdx]
/-- a ring's cells, as a letter -/
structure IsR (C : Array Value) (x : Wg) (r : Rg) : Prop where
  eq : C = ringC x r
  size : C.size = 8
  one : C.all (·.oneCell') = true
  bl : Array.foldl (fun (cs : Array Value) (x : Value × Nat) => cs.setIfInBounds x.snd x.fst)
    #[.int .i64 0, .slice none 0 0, .int .i64 0, .slice none 0 0, .int .i64 0, .slice none 0 0, .int .i64 0, .int .i64 0] C.zipIdx 0 C.size = C
set_option maxRecDepth 100000 in
theorem isR (x : Wg) (r : Rg) : ∃ C, IsR C x r := ⟨ringC x r, rfl, rfl, ringC_one x r, buildW _ rfl⟩
/-- a call's answer: a generation -/
def AnsGn (W' : World) (e : Ending) (g : Gn) : Prop := ∃ y, e = .returned (.agg (genC y g)) ∧ KeyR W' y g.key
set_option maxRecDepth 100000 in
theorem bxGZ (W : World) (x : Wk) (g : Gn) : ∃ V C, C = genC x g ∧ V = (W.alloc (.cells C 24)).alloc (.cells #[.int .i64 0, .slice none 0 0] 24) ∧ Below W.heap.size W V ∧ Bx V W.heap.size 24 (genC x g) ∧ Bx V (W.heap.size + 1) 24 (genC wk0 gn0) := by
  obtain ⟨V, h1, h2, h3, h4, -⟩ := bx2 W 24 24 (genC x g) (genC wk0 gn0)
  exact ⟨V, _, rfl, h1, h2, h3, h4⟩
set_option maxRecDepth 100000 in
/-- a ring's box, and another type's of as many cells -/
theorem bxRW (W : World) (U : TypeId) (x : Wg) (r : Rg) : ∃ V C, C = ringC x r ∧ V = (W.alloc (.cells C 26)).alloc (.cells #[.int .i64 0, .slice none 0 0, .int .i64 0, .slice none 0 0, .int .i64 0, .slice none 0 0, .int .i64 0, .int .i64 0] U) ∧ Below W.heap.size W V ∧ BxR V W.heap.size x r ∧ Bx V (W.heap.size + 1) U (ringC wg0 rg0) := by
  obtain ⟨V, h1, h2, h3, h4, -⟩ := bx2 W 26 U (ringC x r) (ringC wg0 rg0)
  exact ⟨V, _, rfl, h1, h2, h3, h4⟩
abbrev BxW (w : World) (g : Nat) (x : Wg) (r : Rg) : Prop := Bx w g 66 (ringC x r)
set_option maxRecDepth 100000 in
theorem bxW1 (W : World) (x : Wg) (r : Rg) : ∃ V C, C = ringC x r ∧ V = W.alloc (.cells C 66) ∧ Below W.heap.size W V ∧ BxW V W.heap.size x r := by
  obtain ⟨V, h1, h2, h3⟩ := bx1 W 66 (ringC x r)
  exact ⟨V, _, rfl, h1, h2, h3⟩
set_option maxRecDepth 100000 in
theorem bxWG (W : World) (x : Wg) (r : Rg) : ∃ V C, C = ringC x r ∧ V = (W.alloc (.cells C 66)).alloc (.cells #[.int .i64 0, .slice none 0 0, .int .i64 0, .slice none 0 0, .int .i64 0, .slice none 0 0] 68) ∧ Below W.heap.size W V ∧ BxW V W.heap.size x r ∧ Bx V (W.heap.size + 1) 68 (gensC wg0 rg0) := by
  obtain ⟨V, h1, h2, h3, h4, -⟩ := bx2 W 66 68 (ringC x r) (gensC wg0 rg0)
  exact ⟨V, _, rfl, h1, h2, h3, h4⟩
set_option maxRecDepth 100000 in
set_option maxHeartbeats 4000000 in
theorem own_any (x : Wk) (g : Gn) (W : World) (hl : g.key.length ≤ 50000) (hk : KeyR W x g.key) : Calls Try.prog 33 #[.agg (genC x g)] W fun e W' => AnsGn W' e g ∧ Below W.heap.size W W' := by
  obtain ⟨V, C, hC, hV, hb, hg, hj⟩ := bxGZ W x g
  have HB := Lib.hid hb
  have HV := Lib.hid hV
  have HG := Lib.hid hg
  have HJ := Lib.hid hj
  have HK := Lib.hid (hk.go hb)
  have LEN := Lib.hid (Nat.le_succ W.heap.size)
  have LEG := Lib.hid (Nat.le_refl W.heap.size)
  have NEGN := Lib.hid (show W.heap.size ≠ W.heap.size + 1 by omega)
  rw [← hC]
  clear hC hV hb hg hj hk
  go_enter Try.func33, Try.ntmps33
  go_upto_region 1 with (fail)
  rw [← HV.out]
  clear HV
  have BB0 := Lib.hid (HB.out.drew)
  have KEEP := Lib.hid (fun w' (hW : Below W.heap.size W w') (hG : Bx w' W.heap.size 24 (genC x g)) => (show Below W.heap.size W w' ∧ Bx w' W.heap.size 24 (genC x g) from ⟨hW, hG⟩))
  have HG_0 := Lib.hid (Bx.drew HG.out)
  have HN_0 := Lib.hid (Bx.drew HJ.out)
  have KX_0 := Lib.hid (HK.out.go ((Below.refl V.heap.size V).drew))
  refine wp_region_noPanic ?_
  refine wp_region_held_drew (S := fun w' => Below W.heap.size W w' ∧ Bx w' W.heap.size 24 (genC x g)) (by kernel_rfl) (KEEP.out _ BB0.out HG_0.out) (fun hHeld => ?_)
  obtain ⟨wz0, hwz⟩ : ∃ x, x = V.drew := ⟨_, rfl⟩
  rw [← hwz] at BB0 hHeld HG_0 HN_0 KX_0 ⊢
  clear hwz
  refine wpAnyH_take (i := 0) (oi := ?_) (v := ?_) ?_ (by kernel_rfl) (by decide +kernel) (by decide +kernel) (fun _ _ _ h => h) ?_ (by assumption) ?_
  rotate_left 2
  focus (simp only [List.getElem?_toArray, List.getElem?_cons_zero] <;> rfl)
  · refine Or.inl ⟨by rfl, ?_⟩
    intro w hSw
    (try dsimp only at hSw)
    go_simp <;> with_reducible rfl
  (try simp only [Act.put, List.setIfInBounds_toArray, List.set_cons_zero, List.set_cons_succ])
  refine wpAnyH_take (i := 2) (oi := ?_) (v := ?_) ?_ (by kernel_rfl) (by decide +kernel) (by decide +kernel) (fun _ _ _ h => h) ?_ (by assumption) ?_
  rotate_left 2
  focus (simp only [List.getElem?_toArray, List.getElem?_cons_succ, List.getElem?_cons_zero] <;> rfl)
  · refine Or.inl ⟨by rfl, ?_⟩
    intro w hSw
    (try dsimp only at hSw)
    go_simp <;> with_reducible rfl
  (try simp only [Act.put, List.setIfInBounds_toArray, List.set_cons_zero, List.set_cons_succ])
  refine wpAnyH_take (i := 1) (oi := ?_) (v := ?_) ?_ (by kernel_rfl) (by decide +kernel) (by decide +kernel) (fun _ _ _ h => h) ?_ (by assumption) ?_
  rotate_left 2
  focus (simp only [List.getElem?_toArray, List.getElem?_cons_succ, List.getElem?_cons_zero] <;> rfl)
  · refine Or.inl ⟨by rfl, ?_⟩
    intro w hSw
    have hcell := (hSw.2).cell (genC_cn x g)
    clear hSw
    go_simp <;> with_reducible rfl
  (try simp only [Act.put, List.setIfInBounds_toArray, List.set_cons_zero, List.set_cons_succ])
  refine wpAnyH_take (i := 3) (oi := ?_) (v := ?_) ?_ (by kernel_rfl) (by decide +kernel) (by decide +kernel) (fun _ _ _ h => h) ?_ (by assumption) ?_
  rotate_left 2
  focus (simp only [List.getElem?_toArray, List.getElem?_cons_succ, List.getElem?_cons_zero] <;> rfl)
  · refine Or.inl ⟨by rfl, ?_⟩
    intro w hSw
    have hcell := (hSw.2).cell (genC_ck x g)
    clear hSw
    go_simp <;> with_reducible rfl
  (try simp only [Act.put, List.setIfInBounds_toArray, List.set_cons_zero, List.set_cons_succ])
  refine wpAnyH_ready (rs := [4]) (by decide +kernel) (by simp) ?_
  refine AllReadyH.cons (o := ?_) ?_ (fun K hK => ?_) AllReadyH.nil
  rotate_left 1
  focus (simp only [List.getElem?_toArray, List.getElem?_cons_succ, List.getElem?_cons_zero] <;> rfl)
  (try rw [if_pos (by rfl)])
  go_simp
  go_at_call 43
  refine (cloneK_any x g.key _ hl KX_0.out).mono ?_
  rintro e wz1 ⟨⟨z, rfl, hk⟩, hb⟩
  have BB1 := Lib.hid (belG BB0.out hb BB0.out.size)
  have KX_1 := Lib.hid (KX_0.out.go hb)
  have HG_1 := Lib.hid (Bx.go HG_0.out hb)
  have HN_1 := Lib.hid (Bx.go HN_0.out hb)
  have KZ_1 := Lib.hid hk
  clear hk
  clear hb
  refine hK.out _ _ (KEEP.out _ BB1.out HG_1.out) (fun hHeld => ?_)
  clear hK K
  (try simp only [Act.put, List.setIfInBounds_toArray, List.set_cons_zero, List.set_cons_succ])
  refine wpAnyH_take (i := 5) (oi := ?_) (v := ?_) ?_ (by kernel_rfl) (by decide +kernel) (by decide +kernel) (fun _ _ _ h => h) ?_ (by assumption) ?_
  rotate_left 2
  focus (simp only [List.getElem?_toArray, List.getElem?_cons_succ, List.getElem?_cons_zero] <;> rfl)
  · refine Or.inl ⟨by rfl, ?_⟩
    intro w hSw
    (try dsimp only at hSw)
    go_simp <;> with_reducible rfl
  (try simp only [Act.put, List.setIfInBounds_toArray, List.set_cons_zero, List.set_cons_succ])
  refine wpAnyH_ready (rs := [6]) (by decide +kernel) (by simp) ?_
  refine AllReadyH.cons (o := ?_) ?_ (fun K hK => ?_) AllReadyH.nil
  rotate_left 1
  focus (simp only [List.getElem?_toArray, List.getElem?_cons_succ, List.getElem?_cons_zero] <;> rfl)
  rw [if_pos (by rfl)]
  refine wp_storeX (.tmp 2) (.tmp 8) (W.heap.size + 1) (genC z g) _ tyGen rfl (genC_one _ _) HN_1.out rfl rfl rfl rfl ?_
  (try simp only [Act.put])
  obtain ⟨wz2, hwz⟩ : ∃ x, x = wz1.setRow (W.heap.size + 1) (genC z g) := ⟨_, rfl⟩
  have BB2 := Lib.hid (show Below W.heap.size W wz2 from by rw [hwz]; exact Below.setRowG BB1.out LEN.out _)
  have hq := Bx.setRowOther HG_1.out NEGN.out (genC z g)
  rw [← hwz] at hq
  have HG_2 := Lib.hid hq
  clear hq
  have HN_2 := Lib.hid (show Bx wz2 (W.heap.size + 1) 24 (genC z g) from by rw [hwz]; exact Bx.setRow HN_1.out _)
  have hq := KX_1.out.setRow (C' := (genC z g)) HN_1.out (no8_gen _ _)
  rw [← hwz] at hq
  have KX_2 := Lib.hid hq
  clear hq
  have hq := KZ_1.out.setRow (C' := (genC z g)) HN_1.out (no8_gen _ _)
  rw [← hwz] at hq
  have KZ_2 := Lib.hid hq
  clear hq
  rw [← hwz]
  clear hwz
  refine hK.out _ _ (KEEP.out _ BB2.out HG_2.out) (fun hHeld => ?_)
  clear hK K
  (try dsimp only)
  refine wpAnyH_done (by decide +kernel) ?_ _
  refine NoPanic.normal ?_
  clear KEEP
  go_wp2_with fail
  (try dsimp only)
  refine bodyPost_ret (retX1 rfl _ _ (W.heap.size + 1) (genC z g) tyGen rfl rfl HN_2.out) rfl ?_
  exact ⟨⟨z, rfl, KZ_2.out⟩, BB2.out⟩
set_option maxRecDepth 100000 in
set_option maxHeartbeats 4000000 in
theorem begun_any (x : Wg) (r : Rg) (W : World) (hf : FewK r) (hr : RingR W x r) : Calls Try.prog 44 #[.agg (ringC x r)] W fun e W' => AnsR1 W' e r ∧ Below W.heap.size W W' := by
  obtain ⟨V, C, hC, hV, hb, hg, hj⟩ := bxRW W 66 x r
  have HB := Lib.hid hb
  have HV := Lib.hid hV
  have HG := Lib.hid hg
  have HJ := Lib.hid hj
  have HF := Lib.hid hf
  have HKC := Lib.hid (hr.1.go hb)
  have HKO := Lib.hid (hr.2.1.go hb)
  have HKP := Lib.hid (hr.2.2.go hb)
  have LEN := Lib.hid (Nat.le_succ W.heap.size)
  have LER := Lib.hid (Nat.le_refl W.heap.size)
  have NERN := Lib.hid (show W.heap.size ≠ W.heap.size + 1 by omega)
  have NENR := Lib.hid (show W.heap.size + 1 ≠ W.heap.size by omega)
  rw [← hC]
  clear hC hV hb hg hj hr hf
  go_enter Try.func44, Try.ntmps44
  go_upto_region 1 with (fail)
  rw [← HV.out]
  clear HV
  have BB0 := Lib.hid (HB.out.drew)
  have KEEP := Lib.hid (fun w' (hW : Below W.heap.size W w') => (show Below W.heap.size W w' from hW))
  have HR_0 := Lib.hid (Bx.drew HG.out)
  have HN_0 := Lib.hid (Bx.drew HJ.out)
  have KO_0 := Lib.hid (HKO.out.go ((Below.refl V.heap.size V).drew))
  have KC_0 := Lib.hid (HKC.out.go ((Below.refl V.heap.size V).drew))
  have KP_0 := Lib.hid (HKP.out.go ((Below.refl V.heap.size V).drew))
  refine wp_region_noPanic ?_
  refine wp_region_held_drew (S := fun w' => Below W.heap.size W w') (by kernel_rfl) (KEEP.out _ BB0.out) (fun hHeld => ?_)
  obtain ⟨wz0, hwz⟩ : ∃ x, x = V.drew := ⟨_, rfl⟩
  rw [← hwz] at BB0 hHeld HR_0 HN_0 KO_0 KC_0 KP_0 ⊢
  clear hwz
  refine wpAnyH_take (i := 0) (oi := ?_) (v := ?_) ?_ (by kernel_rfl) (by decide +kernel) (by decide +kernel) (fun _ _ _ h => h) ?_ (by assumption) ?_
  rotate_left 2
  focus (simp only [List.getElem?_toArray, List.getElem?_cons_zero] <;> rfl)
  · refine Or.inl ⟨by rfl, ?_⟩
    intro w hSw
    (try dsimp only at hSw)
    go_simp <;> with_reducible rfl
  (try simp only [Act.put, List.setIfInBounds_toArray, List.set_cons_zero, List.set_cons_succ])
  refine wpAnyH_take (i := 3) (oi := ?_) (v := ?_) ?_ (by kernel_rfl) (by decide +kernel) (by decide +kernel) (fun _ _ _ h => h) ?_ (by assumption) ?_
  rotate_left 2
  focus (simp only [List.getElem?_toArray, List.getElem?_cons_succ, List.getElem?_cons_zero] <;> rfl)
  · refine Or.inl ⟨by rfl, ?_⟩
    intro w hSw
    (try dsimp only at hSw)
    go_simp <;> with_reducible rfl
  (try simp only [Act.put, List.setIfInBounds_toArray, List.set_cons_zero, List.set_cons_succ])
  refine wpAnyH_take (i := 6) (oi := ?_) (v := ?_) ?_ (by kernel_rfl) (by decide +kernel) (by decide +kernel) (fun _ _ _ h => h) ?_ (by assumption) ?_
  rotate_left 2
  focus (simp only [List.getElem?_toArray, List.getElem?_cons_succ, List.getElem?_cons_zero] <;> rfl)
  · refine Or.inl ⟨by rfl, ?_⟩
    intro w hSw
    (try dsimp only at hSw)
    go_simp <;> with_reducible rfl
  (try simp only [Act.put, List.setIfInBounds_toArray, List.set_cons_zero, List.set_cons_succ])
  refine wpAnyH_ready (rs := [1, 4, 7]) (by decide +kernel) (by simp) ?_
  refine AllReadyH.cons (o := ?_) ?_ (fun K hK => ?_) ?_
  rotate_left 1
  focus (simp only [List.getElem?_toArray, List.getElem?_cons_succ, List.getElem?_cons_zero] <;> rfl)
  · rw [if_pos (by rfl)]
    refine wp_loadPw (.tmp 3) W.heap.size 2 _ (genC x.old r.old) tyGen rfl (part_old _ _) HR_0.out rfl rfl ?_
    (try simp only [Act.put, List.setIfInBounds_toArray, List.set_cons_zero, List.set_cons_succ])
    refine hK.out _ _ (KEEP.out _ BB0.out) (fun hHeld => ?_)
    clear hK K
    (try simp only [Act.put, List.setIfInBounds_toArray, List.set_cons_zero, List.set_cons_succ])
    refine wpAnyH_ready (rs := [2, 4, 7]) (by decide +kernel) (by simp) ?_
    refine AllReadyH.cons (o := ?_) ?_ (fun K hK => ?_) ?_
    rotate_left 1
    focus (simp only [List.getElem?_toArray, List.getElem?_cons_succ, List.getElem?_cons_zero] <;> rfl)
    · (try rw [if_pos (by rfl)])
      go_simp
      go_at_call 33
      refine (own_any x.old r.old _ HF.out.2.1 KO_0.out).mono ?_
      rintro e wz2 ⟨⟨zo, rfl, hk⟩, hb⟩
      have BB2 := Lib.hid (belG BB0.out hb BB0.out.size)
      have KO_2 := Lib.hid (KO_0.out.go hb)
      have KC_2 := Lib.hid (KC_0.out.go hb)
      have KP_2 := Lib.hid (KP_0.out.go hb)
      have HR_2 := Lib.hid (Bx.go HR_0.out hb)
      have HN_2 := Lib.hid (Bx.go HN_0.out hb)
      have ZO_2 := Lib.hid hk
      clear hk
      clear hb
      refine hK.out _ _ (KEEP.out _ BB2.out) (fun hHeld => ?_)
      clear hK K
      (try simp only [Act.put, List.setIfInBounds_toArray, List.set_cons_zero, List.set_cons_succ])
      refine wpAnyH_ready (rs := [4, 7]) (by decide +kernel) (by simp) ?_
      refine AllReadyH.cons (o := ?_) ?_ (fun K hK => ?_) ?_
      rotate_left 1
      focus (simp only [List.getElem?_toArray, List.getElem?_cons_succ, List.getElem?_cons_zero] <;> rfl)
      · rw [if_pos (by rfl)]
        refine wp_loadPw (.tmp 6) W.heap.size 0 _ (genC x.cur r.cur) tyGen rfl (part_cur _ _) HR_2.out rfl rfl ?_
        (try simp only [Act.put, List.setIfInBounds_toArray, List.set_cons_zero, List.set_cons_succ])
        refine hK.out _ _ (KEEP.out _ BB2.out) (fun hHeld => ?_)
        clear hK K
        (try simp only [Act.put, List.setIfInBounds_toArray, List.set_cons_zero, List.set_cons_succ])
        refine wpAnyH_ready (rs := [5, 7]) (by decide +kernel) (by simp) ?_
        refine AllReadyH.cons (o := ?_) ?_ (fun K hK => ?_) ?_
        rotate_left 1
        focus (simp only [List.getElem?_toArray, List.getElem?_cons_succ, List.getElem?_cons_zero] <;> rfl)
        · (try rw [if_pos (by rfl)])
          go_simp
          go_at_call 33
          refine (own_any x.cur r.cur _ HF.out.1 KC_2.out).mono ?_
          rintro e wz4 ⟨⟨zc, rfl, hk⟩, hb⟩
          have BB4 := Lib.hid (belG BB2.out hb BB2.out.size)
          have KO_4 := Lib.hid (KO_2.out.go hb)
          have KC_4 := Lib.hid (KC_2.out.go hb)
          have KP_4 := Lib.hid (KP_2.out.go hb)
          have ZO_4 := Lib.hid (ZO_2.out.go hb)
          have HR_4 := Lib.hid (Bx.go HR_2.out hb)
          have HN_4 := Lib.hid (Bx.go HN_2.out hb)
          have ZC_4 := Lib.hid hk
          clear hk
          clear hb
          refine hK.out _ _ (KEEP.out _ BB4.out) (fun hHeld => ?_)
          clear hK K
          (try simp only [Act.put, List.setIfInBounds_toArray, List.set_cons_zero, List.set_cons_succ])
          refine wpAnyH_ready (rs := [7]) (by decide +kernel) (by simp) ?_
          refine AllReadyH.cons (o := ?_) ?_ (fun K hK => ?_) AllReadyH.nil
          rotate_left 1
          focus (simp only [List.getElem?_toArray, List.getElem?_cons_succ, List.getElem?_cons_zero] <;> rfl)
          rw [if_pos (by rfl)]
          refine wp_loadPw (.tmp 9) W.heap.size 4 _ (genC x.pend r.pend) tyGen rfl (part_pend _ _) HR_4.out rfl rfl ?_
          (try simp only [Act.put, List.setIfInBounds_toArray, List.set_cons_zero, List.set_cons_succ])
          refine hK.out _ _ (KEEP.out _ BB4.out) (fun hHeld => ?_)
          clear hK K
          (try simp only [Act.put, List.setIfInBounds_toArray, List.set_cons_zero, List.set_cons_succ])
          refine wpAnyH_take (i := 9) (oi := ?_) (v := ?_) ?_ (by kernel_rfl) (by decide +kernel) (by decide +kernel) (fun _ _ _ h => h) ?_ (by assumption) ?_
          rotate_left 2
          focus (simp only [List.getElem?_toArray, List.getElem?_cons_succ, List.getElem?_cons_zero] <;> rfl)
          · refine Or.inl ⟨by rfl, ?_⟩
            intro w hSw
            (try dsimp only at hSw)
            go_simp <;> with_reducible rfl
          (try simp only [Act.put, List.setIfInBounds_toArray, List.set_cons_zero, List.set_cons_succ])
          refine wpAnyH_ready (rs := [8]) (by decide +kernel) (by simp) ?_
          refine AllReadyH.cons (o := ?_) ?_ (fun K hK => ?_) AllReadyH.nil
          rotate_left 1
          focus (simp only [List.getElem?_toArray, List.getElem?_cons_succ, List.getElem?_cons_zero] <;> rfl)
          (try rw [if_pos (by rfl)])
          go_simp
          go_at_call 33
          refine (own_any x.pend r.pend _ HF.out.2.2 KP_4.out).mono ?_
          rintro e wz6 ⟨⟨zp, rfl, hk⟩, hb⟩
          have BB6 := Lib.hid (belG BB4.out hb BB4.out.size)
          have KO_6 := Lib.hid (KO_4.out.go hb)
          have KC_6 := Lib.hid (KC_4.out.go hb)
          have KP_6 := Lib.hid (KP_4.out.go hb)
          have ZO_6 := Lib.hid (ZO_4.out.go hb)
          have ZC_6 := Lib.hid (ZC_4.out.go hb)
          have HR_6 := Lib.hid (Bx.go HR_4.out hb)
          have HN_6 := Lib.hid (Bx.go HN_4.out hb)
          have ZP_6 := Lib.hid hk
          clear hk
          clear hb
          refine hK.out _ _ (KEEP.out _ BB6.out) (fun hHeld => ?_)
          clear hK K
          (try simp only [Act.put, List.setIfInBounds_toArray, List.set_cons_zero, List.set_cons_succ])
          refine wpAnyH_ready (rs := [10]) (by decide +kernel) (by simp) ?_
          refine AllReadyH.cons (o := ?_) ?_ (fun K hK => ?_) AllReadyH.nil
          rotate_left 1
          focus (simp only [List.getElem?_toArray, List.getElem?_cons_succ, List.getElem?_cons_zero] <;> rfl)
          rw [if_pos (by rfl)]
          refine wp_storePw (.tmp 12) (.tmp 5) W.heap.size 2 _ (genC zo r.old) tyGen rfl (genC_one _ _) HR_6.out (show 2 + 2 ≤ 8 from by decide) rfl rfl rfl ?_
          (try simp only [Act.put])
          obtain ⟨wz7, hwz⟩ : ∃ x, x = wz6.setCells W.heap.size 2 ((genC zo r.old)).toList := ⟨_, rfl⟩
          have BB7 := Lib.hid (show Below W.heap.size W wz7 from by rw [hwz]; exact Below.setCellsG LER.out _ _ _ BB6.out)
          have HR_7 := Lib.hid (show Bx wz7 W.heap.size 26 (ringC ⟨x.cur, zo, x.pend⟩ r) from by rw [hwz]; exact Bx.putP _ _ HR_6.out)
          have hq := Bx.putOther HN_6.out NENR.out 2 ((genC zo r.old)).toList
          rw [← hwz] at hq
          have HN_7 := Lib.hid hq
          clear hq
          have hq := KO_6.out.putX HR_6.out (no8_ring _ _) 2 ((genC zo r.old)).toList
          rw [← hwz] at hq
          have KO_7 := Lib.hid hq
          clear hq
          have hq := KC_6.out.putX HR_6.out (no8_ring _ _) 2 ((genC zo r.old)).toList
          rw [← hwz] at hq
          have KC_7 := Lib.hid hq
          clear hq
          have hq := KP_6.out.putX HR_6.out (no8_ring _ _) 2 ((genC zo r.old)).toList
          rw [← hwz] at hq
          have KP_7 := Lib.hid hq
          clear hq
          have hq := ZO_6.out.putX HR_6.out (no8_ring _ _) 2 ((genC zo r.old)).toList
          rw [← hwz] at hq
          have ZO_7 := Lib.hid hq
          clear hq
          have hq := ZC_6.out.putX HR_6.out (no8_ring _ _) 2 ((genC zo r.old)).toList
          rw [← hwz] at hq
          have ZC_7 := Lib.hid hq
          clear hq
          have hq := ZP_6.out.putX HR_6.out (no8_ring _ _) 2 ((genC zo r.old)).toList
          rw [← hwz] at hq
          have ZP_7 := Lib.hid hq
          clear hq
          rw [← hwz]
          clear hwz
          refine hK.out _ _ (KEEP.out _ BB7.out) (fun hHeld => ?_)
          clear hK K
          (try simp only [Act.put, List.setIfInBounds_toArray, List.set_cons_zero, List.set_cons_succ])
          refine wpAnyH_take (i := 11) (oi := ?_) (v := ?_) ?_ (by kernel_rfl) (by decide +kernel) (by decide +kernel) (fun _ _ _ h => h) ?_ (by assumption) ?_
          rotate_left 2
          focus (simp only [List.getElem?_toArray, List.getElem?_cons_succ, List.getElem?_cons_zero] <;> rfl)
          · refine Or.inl ⟨by rfl, ?_⟩
            intro w hSw
            (try dsimp only at hSw)
            go_simp <;> with_reducible rfl
          (try simp only [Act.put, List.setIfInBounds_toArray, List.set_cons_zero, List.set_cons_succ])
          refine wpAnyH_ready (rs := [12]) (by decide +kernel) (by simp) ?_
          refine AllReadyH.cons (o := ?_) ?_ (fun K hK => ?_) AllReadyH.nil
          rotate_left 1
          focus (simp only [List.getElem?_toArray, List.getElem?_cons_succ, List.getElem?_cons_zero] <;> rfl)
          rw [if_pos (by rfl)]
          refine wp_storePw (.tmp 13) (.tmp 8) W.heap.size 0 _ (genC zc r.cur) tyGen rfl (genC_one _ _) HR_7.out (show 0 + 2 ≤ 8 from by decide) rfl rfl rfl ?_
          (try simp only [Act.put])
          obtain ⟨wz8, hwz⟩ : ∃ x, x = wz7.setCells W.heap.size 0 ((genC zc r.cur)).toList := ⟨_, rfl⟩
          have BB8 := Lib.hid (show Below W.heap.size W wz8 from by rw [hwz]; exact Below.setCellsG LER.out _ _ _ BB7.out)
          have HR_8 := Lib.hid (show Bx wz8 W.heap.size 26 (ringC ⟨zc, zo, x.pend⟩ r) from by rw [hwz]; exact Bx.putP _ _ HR_7.out)
          have hq := Bx.putOther HN_7.out NENR.out 0 ((genC zc r.cur)).toList
          rw [← hwz] at hq
          have HN_8 := Lib.hid hq
          clear hq
          have hq := KO_7.out.putX HR_7.out (no8_ring _ _) 0 ((genC zc r.cur)).toList
          rw [← hwz] at hq
          have KO_8 := Lib.hid hq
          clear hq
          have hq := KC_7.out.putX HR_7.out (no8_ring _ _) 0 ((genC zc r.cur)).toList
          rw [← hwz] at hq
          have KC_8 := Lib.hid hq
          clear hq
          have hq := KP_7.out.putX HR_7.out (no8_ring _ _) 0 ((genC zc r.cur)).toList
          rw [← hwz] at hq
          have KP_8 := Lib.hid hq
          clear hq
          have hq := ZO_7.out.putX HR_7.out (no8_ring _ _) 0 ((genC zc r.cur)).toList
          rw [← hwz] at hq
          have ZO_8 := Lib.hid hq
          clear hq
          have hq := ZC_7.out.putX HR_7.out (no8_ring _ _) 0 ((genC zc r.cur)).toList
          rw [← hwz] at hq
          have ZC_8 := Lib.hid hq
          clear hq
          have hq := ZP_7.out.putX HR_7.out (no8_ring _ _) 0 ((genC zc r.cur)).toList
          rw [← hwz] at hq
          have ZP_8 := Lib.hid hq
          clear hq
          rw [← hwz]
          clear hwz
          refine hK.out _ _ (KEEP.out _ BB8.out) (fun hHeld => ?_)
          clear hK K
          (try simp only [Act.put, List.setIfInBounds_toArray, List.set_cons_zero, List.set_cons_succ])
          refine wpAnyH_take (i := 13) (oi := ?_) (v := ?_) ?_ (by kernel_rfl) (by decide +kernel) (by decide +kernel) (fun _ _ _ h => h) ?_ (by assumption) ?_
          rotate_left 2
          focus (simp only [List.getElem?_toArray, List.getElem?_cons_succ, List.getElem?_cons_zero] <;> rfl)
          · refine Or.inl ⟨by rfl, ?_⟩
            intro w hSw
            (try dsimp only at hSw)
            go_simp <;> with_reducible rfl
          (try simp only [Act.put, List.setIfInBounds_toArray, List.set_cons_zero, List.set_cons_succ])
          refine wpAnyH_ready (rs := [14]) (by decide +kernel) (by simp) ?_
          refine AllReadyH.cons (o := ?_) ?_ (fun K hK => ?_) AllReadyH.nil
          rotate_left 1
          focus (simp only [List.getElem?_toArray, List.getElem?_cons_succ, List.getElem?_cons_zero] <;> rfl)
          rw [if_pos (by rfl)]
          refine wp_storePw (.tmp 14) (.tmp 11) W.heap.size 4 _ (genC zp r.pend) tyGen rfl (genC_one _ _) HR_8.out (show 4 + 2 ≤ 8 from by decide) rfl rfl rfl ?_
          (try simp only [Act.put])
          obtain ⟨wz9, hwz⟩ : ∃ x, x = wz8.setCells W.heap.size 4 ((genC zp r.pend)).toList := ⟨_, rfl⟩
          have BB9 := Lib.hid (show Below W.heap.size W wz9 from by rw [hwz]; exact Below.setCellsG LER.out _ _ _ BB8.out)
          have HR_9 := Lib.hid (show Bx wz9 W.heap.size 26 (ringC ⟨zc, zo, zp⟩ r) from by rw [hwz]; exact Bx.putP _ _ HR_8.out)
          have hq := Bx.putOther HN_8.out NENR.out 4 ((genC zp r.pend)).toList
          rw [← hwz] at hq
          have HN_9 := Lib.hid hq
          clear hq
          have hq := KO_8.out.putX HR_8.out (no8_ring _ _) 4 ((genC zp r.pend)).toList
          rw [← hwz] at hq
          have KO_9 := Lib.hid hq
          clear hq
          have hq := KC_8.out.putX HR_8.out (no8_ring _ _) 4 ((genC zp r.pend)).toList
          rw [← hwz] at hq
          have KC_9 := Lib.hid hq
          clear hq
          have hq := KP_8.out.putX HR_8.out (no8_ring _ _) 4 ((genC zp r.pend)).toList
          rw [← hwz] at hq
          have KP_9 := Lib.hid hq
          clear hq
          have hq := ZO_8.out.putX HR_8.out (no8_ring _ _) 4 ((genC zp r.pend)).toList
          rw [← hwz] at hq
          have ZO_9 := Lib.hid hq
          clear hq
          have hq := ZC_8.out.putX HR_8.out (no8_ring _ _) 4 ((genC zp r.pend)).toList
          rw [← hwz] at hq
          have ZC_9 := Lib.hid hq
          clear hq
          have hq := ZP_8.out.putX HR_8.out (no8_ring _ _) 4 ((genC zp r.pend)).toList
          rw [← hwz] at hq
          have ZP_9 := Lib.hid hq
          clear hq
          rw [← hwz]
          clear hwz
          refine hK.out _ _ (KEEP.out _ BB9.out) (fun hHeld => ?_)
          clear hK K
          (try simp only [Act.put, List.setIfInBounds_toArray, List.set_cons_zero, List.set_cons_succ])
          refine wpAnyH_done (by decide +kernel) ?_ _
          refine NoPanic.normal ?_
          clear KEEP
          obtain ⟨CC, hCC⟩ := isR ⟨zc, zo, zp⟩ r
          rw [← hCC.eq] at HR_9
          have hbl := hCC.bl
          have hsz := hCC.size
          rw [hsz] at hbl
          have HC := Lib.hid hCC
          clear hCC
          go_wp2_with (first | (refine loadX (.tmp 1) W.heap.size CC tyRing HC.out.size HR_9.out rfl rfl rfl ?_) | (refine storeX (.tmp 2) (.tmp 16) (W.heap.size + 1) CC _ tyWork HC.out.size HC.out.one HN_9.out rfl rfl rfl rfl rfl ?_))
          (try dsimp only)
          refine bodyPost_ret (retX1 rfl _ _ (W.heap.size + 1) CC tyWork HC.out.size rfl (Bx.setRow HN_9.out _)) rfl ?_
          have hb := Below.setRowG BB9.out (Nat.le_succ _) CC
          rw [HC.out.eq] at hb ⊢
          exact ⟨⟨_, rfl, RingR.setRow (x := ⟨zc, zo, zp⟩) ⟨ZC_9.out, ZO_9.out, ZP_9.out⟩ HN_9.out (no8_ring _ _)⟩, hb⟩
        refine AllReadyH.cons (o := ?_) ?_ (fun K hK => ?_) AllReadyH.nil
        rotate_left 1
        focus (simp only [List.getElem?_toArray, List.getElem?_cons_succ, List.getElem?_cons_zero] <;> rfl)
        rw [if_pos (by rfl)]
        refine wp_loadPw (.tmp 9) W.heap.size 4 _ (genC x.pend r.pend) tyGen rfl (part_pend _ _) HR_2.out rfl rfl ?_
        (try simp only [Act.put, List.setIfInBounds_toArray, List.set_cons_zero, List.set_cons_succ])
        refine hK.out _ _ (KEEP.out _ BB2.out) (fun hHeld => ?_)
        clear hK K
        (try simp only [Act.put, List.setIfInBounds_toArray, List.set_cons_zero, List.set_cons_succ])
        refine wpAnyH_take (i := 9) (oi := ?_) (v := ?_) ?_ (by kernel_rfl) (by decide +kernel) (by decide +kernel) (fun _ _ _ h => h) ?_ (by assumption) ?_
        rotate_left 2
        focus (simp only [List.getElem?_toArray, List.getElem?_cons_succ, List.getElem?_cons_zero] <;> rfl)
        · refine Or.inl ⟨by rfl, ?_⟩
          intro w hSw
          (try dsimp only at hSw)
          go_simp <;> with_reducible rfl
        (try simp only [Act.put, List.setIfInBounds_toArray, List.set_cons_zero, List.set_cons_succ])
        refine wpAnyH_ready (rs := [5]) (by decide +kernel) (by simp) ?_
        refine AllReadyH.cons (o := ?_) ?_ (fun K hK => ?_) AllReadyH.nil
        rotate_left 1
        focus (simp only [List.getElem?_toArray, List.getElem?_cons_succ, List.getElem?_cons_zero] <;> rfl)
        (try rw [if_pos (by rfl)])
        go_simp
        go_at_call 33
        refine (own_any x.cur r.cur _ HF.out.1 KC_2.out).mono ?_
        rintro e wz11 ⟨⟨zc, rfl, hk⟩, hb⟩
        have BB11 := Lib.hid (belG BB2.out hb BB2.out.size)
        have KO_11 := Lib.hid (KO_2.out.go hb)
        have KC_11 := Lib.hid (KC_2.out.go hb)
        have KP_11 := Lib.hid (KP_2.out.go hb)
        have ZO_11 := Lib.hid (ZO_2.out.go hb)
        have HR_11 := Lib.hid (Bx.go HR_2.out hb)
        have HN_11 := Lib.hid (Bx.go HN_2.out hb)
        have ZC_11 := Lib.hid hk
        clear hk
        clear hb
        refine hK.out _ _ (KEEP.out _ BB11.out) (fun hHeld => ?_)
        clear hK K
        (try simp only [Act.put, List.setIfInBounds_toArray, List.set_cons_zero, List.set_cons_succ])
        refine wpAnyH_ready (rs := [8]) (by decide +kernel) (by simp) ?_
        refine AllReadyH.cons (o := ?_) ?_ (fun K hK => ?_) AllReadyH.nil
        rotate_left 1
        focus (simp only [List.getElem?_toArray, List.getElem?_cons_succ, List.getElem?_cons_zero] <;> rfl)
        (try rw [if_pos (by rfl)])
        go_simp
        go_at_call 33
        refine (own_any x.pend r.pend _ HF.out.2.2 KP_11.out).mono ?_
        rintro e wz12 ⟨⟨zp, rfl, hk⟩, hb⟩
        have BB12 := Lib.hid (belG BB11.out hb BB11.out.size)
        have KO_12 := Lib.hid (KO_11.out.go hb)
        have KC_12 := Lib.hid (KC_11.out.go hb)
        have KP_12 := Lib.hid (KP_11.out.go hb)
        have ZO_12 := Lib.hid (ZO_11.out.go hb)
        have ZC_12 := Lib.hid (ZC_11.out.go hb)
        have HR_12 := Lib.hid (Bx.go HR_11.out hb)
        have HN_12 := Lib.hid (Bx.go HN_11.out hb)
        have ZP_12 := Lib.hid hk
        clear hk
        clear hb
        refine hK.out _ _ (KEEP.out _ BB12.out) (fun hHeld => ?_)
        clear hK K
        (try simp only [Act.put, List.setIfInBounds_toArray, List.set_cons_zero, List.set_cons_succ])
        refine wpAnyH_ready (rs := [10]) (by decide +kernel) (by simp) ?_
        refine AllReadyH.cons (o := ?_) ?_ (fun K hK => ?_) AllReadyH.nil
        rotate_left 1
        focus (simp only [List.getElem?_toArray, List.getElem?_cons_succ, List.getElem?_cons_zero] <;> rfl)
        rw [if_pos (by rfl)]
        refine wp_storePw (.tmp 12) (.tmp 5) W.heap.size 2 _ (genC zo r.old) tyGen rfl (genC_one _ _) HR_12.out (show 2 + 2 ≤ 8 from by decide) rfl rfl rfl ?_
        (try simp only [Act.put])
        obtain ⟨wz13, hwz⟩ : ∃ x, x = wz12.setCells W.heap.size 2 ((genC zo r.old)).toList := ⟨_, rfl⟩
        have BB13 := Lib.hid (show Below W.heap.size W wz13 from by rw [hwz]; exact Below.setCellsG LER.out _ _ _ BB12.out)
        have HR_13 := Lib.hid (show Bx wz13 W.heap.size 26 (ringC ⟨x.cur, zo, x.pend⟩ r) from by rw [hwz]; exact Bx.putP _ _ HR_12.out)
        have hq := Bx.putOther HN_12.out NENR.out 2 ((genC zo r.old)).toList
        rw [← hwz] at hq
        have HN_13 := Lib.hid hq
        clear hq
        have hq := KO_12.out.putX HR_12.out (no8_ring _ _) 2 ((genC zo r.old)).toList
        rw [← hwz] at hq
        have KO_13 := Lib.hid hq
        clear hq
        have hq := KC_12.out.putX HR_12.out (no8_ring _ _) 2 ((genC zo r.old)).toList
        rw [← hwz] at hq
        have KC_13 := Lib.hid hq
        clear hq
        have hq := KP_12.out.putX HR_12.out (no8_ring _ _) 2 ((genC zo r.old)).toList
        rw [← hwz] at hq
        have KP_13 := Lib.hid hq
        clear hq
        have hq := ZO_12.out.putX HR_12.out (no8_ring _ _) 2 ((genC zo r.old)).toList
        rw [← hwz] at hq
        have ZO_13 := Lib.hid hq
        clear hq
        have hq := ZC_12.out.putX HR_12.out (no8_ring _ _) 2 ((genC zo r.old)).toList
        rw [← hwz] at hq
        have ZC_13 := Lib.hid hq
        clear hq
        have hq := ZP_12.out.putX HR_12.out (no8_ring _ _) 2 ((genC zo r.old)).toList
        rw [← hwz] at hq
        have ZP_13 := Lib.hid hq
        clear hq
        rw [← hwz]
        clear hwz
        refine hK.out _ _ (KEEP.out _ BB13.out) (fun hHeld => ?_)
        clear hK K
        (try simp only [Act.put, List.setIfInBounds_toArray, List.set_cons_zero, List.set_cons_succ])
        refine wpAnyH_take (i := 11) (oi := ?_) (v := ?_) ?_ (by kernel_rfl) (by decide +kernel) (by decide +kernel) (fun _ _ _ h => h) ?_ (by assumption) ?_
        rotate_left 2
        focus (simp only [List.getElem?_toArray, List.getElem?_cons_succ, List.getElem?_cons_zero] <;> rfl)
        · refine Or.inl ⟨by rfl, ?_⟩
          intro w hSw
          (try dsimp only at hSw)
          go_simp <;> with_reducible rfl
        (try simp only [Act.put, List.setIfInBounds_toArray, List.set_cons_zero, List.set_cons_succ])
        refine wpAnyH_ready (rs := [12]) (by decide +kernel) (by simp) ?_
        refine AllReadyH.cons (o := ?_) ?_ (fun K hK => ?_) AllReadyH.nil
        rotate_left 1
        focus (simp only [List.getElem?_toArray, List.getElem?_cons_succ, List.getElem?_cons_zero] <;> rfl)
        rw [if_pos (by rfl)]
        refine wp_storePw (.tmp 13) (.tmp 8) W.heap.size 0 _ (genC zc r.cur) tyGen rfl (genC_one _ _) HR_13.out (show 0 + 2 ≤ 8 from by decide) rfl rfl rfl ?_
        (try simp only [Act.put])
        obtain ⟨wz14, hwz⟩ : ∃ x, x = wz13.setCells W.heap.size 0 ((genC zc r.cur)).toList := ⟨_, rfl⟩
        have BB14 := Lib.hid (show Below W.heap.size W wz14 from by rw [hwz]; exact Below.setCellsG LER.out _ _ _ BB13.out)
        have HR_14 := Lib.hid (show Bx wz14 W.heap.size 26 (ringC ⟨zc, zo, x.pend⟩ r) from by rw [hwz]; exact Bx.putP _ _ HR_13.out)
        have hq := Bx.putOther HN_13.out NENR.out 0 ((genC zc r.cur)).toList
        rw [← hwz] at hq
        have HN_14 := Lib.hid hq
        clear hq
        have hq := KO_13.out.putX HR_13.out (no8_ring _ _) 0 ((genC zc r.cur)).toList
        rw [← hwz] at hq
        have KO_14 := Lib.hid hq
        clear hq
        have hq := KC_13.out.putX HR_13.out (no8_ring _ _) 0 ((genC zc r.cur)).toList
        rw [← hwz] at hq
        have KC_14 := Lib.hid hq
        clear hq
        have hq := KP_13.out.putX HR_13.out (no8_ring _ _) 0 ((genC zc r.cur)).toList
        rw [← hwz] at hq
        have KP_14 := Lib.hid hq
        clear hq
        have hq := ZO_13.out.putX HR_13.out (no8_ring _ _) 0 ((genC zc r.cur)).toList
        rw [← hwz] at hq
        have ZO_14 := Lib.hid hq
        clear hq
        have hq := ZC_13.out.putX HR_13.out (no8_ring _ _) 0 ((genC zc r.cur)).toList
        rw [← hwz] at hq
        have ZC_14 := Lib.hid hq
        clear hq
        have hq := ZP_13.out.putX HR_13.out (no8_ring _ _) 0 ((genC zc r.cur)).toList
        rw [← hwz] at hq
        have ZP_14 := Lib.hid hq
        clear hq
        rw [← hwz]
        clear hwz
        refine hK.out _ _ (KEEP.out _ BB14.out) (fun hHeld => ?_)
        clear hK K
        (try simp only [Act.put, List.setIfInBounds_toArray, List.set_cons_zero, List.set_cons_succ])
        refine wpAnyH_take (i := 13) (oi := ?_) (v := ?_) ?_ (by kernel_rfl) (by decide +kernel) (by decide +kernel) (fun _ _ _ h => h) ?_ (by assumption) ?_
        rotate_left 2
        focus (simp only [List.getElem?_toArray, List.getElem?_cons_succ, List.getElem?_cons_zero] <;> rfl)
        · refine Or.inl ⟨by rfl, ?_⟩
          intro w hSw
          (try dsimp only at hSw)
          go_simp <;> with_reducible rfl
        (try simp only [Act.put, List.setIfInBounds_toArray, List.set_cons_zero, List.set_cons_succ])
        refine wpAnyH_ready (rs := [14]) (by decide +kernel) (by simp) ?_
        refine AllReadyH.cons (o := ?_) ?_ (fun K hK => ?_) AllReadyH.nil
        rotate_left 1
        focus (simp only [List.getElem?_toArray, List.getElem?_cons_succ, List.getElem?_cons_zero] <;> rfl)
        rw [if_pos (by rfl)]
        refine wp_storePw (.tmp 14) (.tmp 11) W.heap.size 4 _ (genC zp r.pend) tyGen rfl (genC_one _ _) HR_14.out (show 4 + 2 ≤ 8 from by decide) rfl rfl rfl ?_
        (try simp only [Act.put])
        obtain ⟨wz15, hwz⟩ : ∃ x, x = wz14.setCells W.heap.size 4 ((genC zp r.pend)).toList := ⟨_, rfl⟩
        have BB15 := Lib.hid (show Below W.heap.size W wz15 from by rw [hwz]; exact Below.setCellsG LER.out _ _ _ BB14.out)
        have HR_15 := Lib.hid (show Bx wz15 W.heap.size 26 (ringC ⟨zc, zo, zp⟩ r) from by rw [hwz]; exact Bx.putP _ _ HR_14.out)
        have hq := Bx.putOther HN_14.out NENR.out 4 ((genC zp r.pend)).toList
        rw [← hwz] at hq
        have HN_15 := Lib.hid hq
        clear hq
        have hq := KO_14.out.putX HR_14.out (no8_ring _ _) 4 ((genC zp r.pend)).toList
        rw [← hwz] at hq
        have KO_15 := Lib.hid hq
        clear hq
        have hq := KC_14.out.putX HR_14.out (no8_ring _ _) 4 ((genC zp r.pend)).toList
        rw [← hwz] at hq
        have KC_15 := Lib.hid hq
        clear hq
        have hq := KP_14.out.putX HR_14.out (no8_ring _ _) 4 ((genC zp r.pend)).toList
        rw [← hwz] at hq
        have KP_15 := Lib.hid hq
        clear hq
        have hq := ZO_14.out.putX HR_14.out (no8_ring _ _) 4 ((genC zp r.pend)).toList
        rw [← hwz] at hq
        have ZO_15 := Lib.hid hq
        clear hq
        have hq := ZC_14.out.putX HR_14.out (no8_ring _ _) 4 ((genC zp r.pend)).toList
        rw [← hwz] at hq
        have ZC_15 := Lib.hid hq
        clear hq
        have hq := ZP_14.out.putX HR_14.out (no8_ring _ _) 4 ((genC zp r.pend)).toList
        rw [← hwz] at hq
        have ZP_15 := Lib.hid hq
        clear hq
        rw [← hwz]
        clear hwz
        refine hK.out _ _ (KEEP.out _ BB15.out) (fun hHeld => ?_)
        clear hK K
        (try simp only [Act.put, List.setIfInBounds_toArray, List.set_cons_zero, List.set_cons_succ])
        refine wpAnyH_done (by decide +kernel) ?_ _
        refine NoPanic.normal ?_
        clear KEEP
        obtain ⟨CC, hCC⟩ := isR ⟨zc, zo, zp⟩ r
        rw [← hCC.eq] at HR_15
        have hbl := hCC.bl
        have hsz := hCC.size
        rw [hsz] at hbl
        have HC := Lib.hid hCC
        clear hCC
        go_wp2_with (first | (refine loadX (.tmp 1) W.heap.size CC tyRing HC.out.size HR_15.out rfl rfl rfl ?_) | (refine storeX (.tmp 2) (.tmp 16) (W.heap.size + 1) CC _ tyWork HC.out.size HC.out.one HN_15.out rfl rfl rfl rfl rfl ?_))
        (try dsimp only)
        refine bodyPost_ret (retX1 rfl _ _ (W.heap.size + 1) CC tyWork HC.out.size rfl (Bx.setRow HN_15.out _)) rfl ?_
        have hb := Below.setRowG BB15.out (Nat.le_succ _) CC
        rw [HC.out.eq] at hb ⊢
        exact ⟨⟨_, rfl, RingR.setRow (x := ⟨zc, zo, zp⟩) ⟨ZC_15.out, ZO_15.out, ZP_15.out⟩ HN_15.out (no8_ring _ _)⟩, hb⟩
      refine AllReadyH.cons (o := ?_) ?_ (fun K hK => ?_) AllReadyH.nil
      rotate_left 1
      focus (simp only [List.getElem?_toArray, List.getElem?_cons_succ, List.getElem?_cons_zero] <;> rfl)
      rw [if_pos (by rfl)]
      refine wp_loadPw (.tmp 9) W.heap.size 4 _ (genC x.pend r.pend) tyGen rfl (part_pend _ _) HR_2.out rfl rfl ?_
      (try simp only [Act.put, List.setIfInBounds_toArray, List.set_cons_zero, List.set_cons_succ])
      refine hK.out _ _ (KEEP.out _ BB2.out) (fun hHeld => ?_)
      clear hK K
      (try simp only [Act.put, List.setIfInBounds_toArray, List.set_cons_zero, List.set_cons_succ])
      refine wpAnyH_ready (rs := [4]) (by decide +kernel) (by simp) ?_
      refine AllReadyH.cons (o := ?_) ?_ (fun K hK => ?_) AllReadyH.nil
      rotate_left 1
      focus (simp only [List.getElem?_toArray, List.getElem?_cons_succ, List.getElem?_cons_zero] <;> rfl)
      rw [if_pos (by rfl)]
      refine wp_loadPw (.tmp 6) W.heap.size 0 _ (genC x.cur r.cur) tyGen rfl (part_cur _ _) HR_2.out rfl rfl ?_
      (try simp only [Act.put, List.setIfInBounds_toArray, List.set_cons_zero, List.set_cons_succ])
      refine hK.out _ _ (KEEP.out _ BB2.out) (fun hHeld => ?_)
      clear hK K
      (try simp only [Act.put, List.setIfInBounds_toArray, List.set_cons_zero, List.set_cons_succ])
      refine wpAnyH_take (i := 9) (oi := ?_) (v := ?_) ?_ (by kernel_rfl) (by decide +kernel) (by decide +kernel) (fun _ _ _ h => h) ?_ (by assumption) ?_
      rotate_left 2
      focus (simp only [List.getElem?_toArray, List.getElem?_cons_succ, List.getElem?_cons_zero] <;> rfl)
      · refine Or.inl ⟨by rfl, ?_⟩
        intro w hSw
        (try dsimp only at hSw)
        go_simp <;> with_reducible rfl
      (try simp only [Act.put, List.setIfInBounds_toArray, List.set_cons_zero, List.set_cons_succ])
      refine wpAnyH_ready (rs := [5]) (by decide +kernel) (by simp) ?_
      refine AllReadyH.cons (o := ?_) ?_ (fun K hK => ?_) AllReadyH.nil
      rotate_left 1
      focus (simp only [List.getElem?_toArray, List.getElem?_cons_succ, List.getElem?_cons_zero] <;> rfl)
      (try rw [if_pos (by rfl)])
      go_simp
      go_at_call 33
      refine (own_any x.cur r.cur _ HF.out.1 KC_2.out).mono ?_
      rintro e wz18 ⟨⟨zc, rfl, hk⟩, hb⟩
      have BB18 := Lib.hid (belG BB2.out hb BB2.out.size)
      have KO_18 := Lib.hid (KO_2.out.go hb)
      have KC_18 := Lib.hid (KC_2.out.go hb)
      have KP_18 := Lib.hid (KP_2.out.go hb)
      have ZO_18 := Lib.hid (ZO_2.out.go hb)
      have HR_18 := Lib.hid (Bx.go HR_2.out hb)
      have HN_18 := Lib.hid (Bx.go HN_2.out hb)
      have ZC_18 := Lib.hid hk
      clear hk
      clear hb
      refine hK.out _ _ (KEEP.out _ BB18.out) (fun hHeld => ?_)
      clear hK K
      (try simp only [Act.put, List.setIfInBounds_toArray, List.set_cons_zero, List.set_cons_succ])
      refine wpAnyH_ready (rs := [8]) (by decide +kernel) (by simp) ?_
      refine AllReadyH.cons (o := ?_) ?_ (fun K hK => ?_) AllReadyH.nil
      rotate_left 1
      focus (simp only [List.getElem?_toArray, List.getElem?_cons_succ, List.getElem?_cons_zero] <;> rfl)
      (try rw [if_pos (by rfl)])
      go_simp
      go_at_call 33
      refine (own_any x.pend r.pend _ HF.out.2.2 KP_18.out).mono ?_
      rintro e wz19 ⟨⟨zp, rfl, hk⟩, hb⟩
      have BB19 := Lib.hid (belG BB18.out hb BB18.out.size)
      have KO_19 := Lib.hid (KO_18.out.go hb)
      have KC_19 := Lib.hid (KC_18.out.go hb)
      have KP_19 := Lib.hid (KP_18.out.go hb)
      have ZO_19 := Lib.hid (ZO_18.out.go hb)
      have ZC_19 := Lib.hid (ZC_18.out.go hb)
      have HR_19 := Lib.hid (Bx.go HR_18.out hb)
      have HN_19 := Lib.hid (Bx.go HN_18.out hb)
      have ZP_19 := Lib.hid hk
      clear hk
      clear hb
      refine hK.out _ _ (KEEP.out _ BB19.out) (fun hHeld => ?_)
      clear hK K
      (try simp only [Act.put, List.setIfInBounds_toArray, List.set_cons_zero, List.set_cons_succ])
      refine wpAnyH_ready (rs := [10]) (by decide +kernel) (by simp) ?_
      refine AllReadyH.cons (o := ?_) ?_ (fun K hK => ?_) AllReadyH.nil
      rotate_left 1
      focus (simp only [List.getElem?_toArray, List.getElem?_cons_succ, List.getElem?_cons_zero] <;> rfl)
      rw [if_pos (by rfl)]
      refine wp_storePw (.tmp 12) (.tmp 5) W.heap.size 2 _ (genC zo r.old) tyGen rfl (genC_one _ _) HR_19.out (show 2 + 2 ≤ 8 from by decide) rfl rfl rfl ?_
      (try simp only [Act.put])
      obtain ⟨wz20, hwz⟩ : ∃ x, x = wz19.setCells W.heap.size 2 ((genC zo r.old)).toList := ⟨_, rfl⟩
      have BB20 := Lib.hid (show Below W.heap.size W wz20 from by rw [hwz]; exact Below.setCellsG LER.out _ _ _ BB19.out)
      have HR_20 := Lib.hid (show Bx wz20 W.heap.size 26 (ringC ⟨x.cur, zo, x.pend⟩ r) from by rw [hwz]; exact Bx.putP _ _ HR_19.out)
      have hq := Bx.putOther HN_19.out NENR.out 2 ((genC zo r.old)).toList
      rw [← hwz] at hq
      have HN_20 := Lib.hid hq
      clear hq
      have hq := KO_19.out.putX HR_19.out (no8_ring _ _) 2 ((genC zo r.old)).toList
      rw [← hwz] at hq
      have KO_20 := Lib.hid hq
      clear hq
      have hq := KC_19.out.putX HR_19.out (no8_ring _ _) 2 ((genC zo r.old)).toList
      rw [← hwz] at hq
      have KC_20 := Lib.hid hq
      clear hq
      have hq := KP_19.out.putX HR_19.out (no8_ring _ _) 2 ((genC zo r.old)).toList
      rw [← hwz] at hq
      have KP_20 := Lib.hid hq
      clear hq
      have hq := ZO_19.out.putX HR_19.out (no8_ring _ _) 2 ((genC zo r.old)).toList
      rw [← hwz] at hq
      have ZO_20 := Lib.hid hq
      clear hq
      have hq := ZC_19.out.putX HR_19.out (no8_ring _ _) 2 ((genC zo r.old)).toList
      rw [← hwz] at hq
      have ZC_20 := Lib.hid hq
      clear hq
      have hq := ZP_19.out.putX HR_19.out (no8_ring _ _) 2 ((genC zo r.old)).toList
      rw [← hwz] at hq
      have ZP_20 := Lib.hid hq
      clear hq
      rw [← hwz]
      clear hwz
      refine hK.out _ _ (KEEP.out _ BB20.out) (fun hHeld => ?_)
      clear hK K
      (try simp only [Act.put, List.setIfInBounds_toArray, List.set_cons_zero, List.set_cons_succ])
      refine wpAnyH_take (i := 11) (oi := ?_) (v := ?_) ?_ (by kernel_rfl) (by decide +kernel) (by decide +kernel) (fun _ _ _ h => h) ?_ (by assumption) ?_
      rotate_left 2
      focus (simp only [List.getElem?_toArray, List.getElem?_cons_succ, List.getElem?_cons_zero] <;> rfl)
      · refine Or.inl ⟨by rfl, ?_⟩
        intro w hSw
        (try dsimp only at hSw)
        go_simp <;> with_reducible rfl
      (try simp only [Act.put, List.setIfInBounds_toArray, List.set_cons_zero, List.set_cons_succ])
      refine wpAnyH_ready (rs := [12]) (by decide +kernel) (by simp) ?_
      refine AllReadyH.cons (o := ?_) ?_ (fun K hK => ?_) AllReadyH.nil
      rotate_left 1
      focus (simp only [List.getElem?_toArray, List.getElem?_cons_succ, List.getElem?_cons_zero] <;> rfl)
      rw [if_pos (by rfl)]
      refine wp_storePw (.tmp 13) (.tmp 8) W.heap.size 0 _ (genC zc r.cur) tyGen rfl (genC_one _ _) HR_20.out (show 0 + 2 ≤ 8 from by decide) rfl rfl rfl ?_
      (try simp only [Act.put])
      obtain ⟨wz21, hwz⟩ : ∃ x, x = wz20.setCells W.heap.size 0 ((genC zc r.cur)).toList := ⟨_, rfl⟩
      have BB21 := Lib.hid (show Below W.heap.size W wz21 from by rw [hwz]; exact Below.setCellsG LER.out _ _ _ BB20.out)
      have HR_21 := Lib.hid (show Bx wz21 W.heap.size 26 (ringC ⟨zc, zo, x.pend⟩ r) from by rw [hwz]; exact Bx.putP _ _ HR_20.out)
      have hq := Bx.putOther HN_20.out NENR.out 0 ((genC zc r.cur)).toList
      rw [← hwz] at hq
      have HN_21 := Lib.hid hq
      clear hq
      have hq := KO_20.out.putX HR_20.out (no8_ring _ _) 0 ((genC zc r.cur)).toList
      rw [← hwz] at hq
      have KO_21 := Lib.hid hq
      clear hq
      have hq := KC_20.out.putX HR_20.out (no8_ring _ _) 0 ((genC zc r.cur)).toList
      rw [← hwz] at hq
      have KC_21 := Lib.hid hq
      clear hq
      have hq := KP_20.out.putX HR_20.out (no8_ring _ _) 0 ((genC zc r.cur)).toList
      rw [← hwz] at hq
      have KP_21 := Lib.hid hq
      clear hq
      have hq := ZO_20.out.putX HR_20.out (no8_ring _ _) 0 ((genC zc r.cur)).toList
      rw [← hwz] at hq
      have ZO_21 := Lib.hid hq
      clear hq
      have hq := ZC_20.out.putX HR_20.out (no8_ring _ _) 0 ((genC zc r.cur)).toList
      rw [← hwz] at hq
      have ZC_21 := Lib.hid hq
      clear hq
      have hq := ZP_20.out.putX HR_20.out (no8_ring _ _) 0 ((genC zc r.cur)).toList
      rw [← hwz] at hq
      have ZP_21 := Lib.hid hq
      clear hq
      rw [← hwz]
      clear hwz
      refine hK.out _ _ (KEEP.out _ BB21.out) (fun hHeld => ?_)
      clear hK K
      (try simp only [Act.put, List.setIfInBounds_toArray, List.set_cons_zero, List.set_cons_succ])
      refine wpAnyH_take (i := 13) (oi := ?_) (v := ?_) ?_ (by kernel_rfl) (by decide +kernel) (by decide +kernel) (fun _ _ _ h => h) ?_ (by assumption) ?_
      rotate_left 2
      focus (simp only [List.getElem?_toArray, List.getElem?_cons_succ, List.getElem?_cons_zero] <;> rfl)
      · refine Or.inl ⟨by rfl, ?_⟩
        intro w hSw
        (try dsimp only at hSw)
        go_simp <;> with_reducible rfl
      (try simp only [Act.put, List.setIfInBounds_toArray, List.set_cons_zero, List.set_cons_succ])
      refine wpAnyH_ready (rs := [14]) (by decide +kernel) (by simp) ?_
      refine AllReadyH.cons (o := ?_) ?_ (fun K hK => ?_) AllReadyH.nil
      rotate_left 1
      focus (simp only [List.getElem?_toArray, List.getElem?_cons_succ, List.getElem?_cons_zero] <;> rfl)
      rw [if_pos (by rfl)]
      refine wp_storePw (.tmp 14) (.tmp 11) W.heap.size 4 _ (genC zp r.pend) tyGen rfl (genC_one _ _) HR_21.out (show 4 + 2 ≤ 8 from by decide) rfl rfl rfl ?_
      (try simp only [Act.put])
      obtain ⟨wz22, hwz⟩ : ∃ x, x = wz21.setCells W.heap.size 4 ((genC zp r.pend)).toList := ⟨_, rfl⟩
      have BB22 := Lib.hid (show Below W.heap.size W wz22 from by rw [hwz]; exact Below.setCellsG LER.out _ _ _ BB21.out)
      have HR_22 := Lib.hid (show Bx wz22 W.heap.size 26 (ringC ⟨zc, zo, zp⟩ r) from by rw [hwz]; exact Bx.putP _ _ HR_21.out)
      have hq := Bx.putOther HN_21.out NENR.out 4 ((genC zp r.pend)).toList
      rw [← hwz] at hq
      have HN_22 := Lib.hid hq
      clear hq
      have hq := KO_21.out.putX HR_21.out (no8_ring _ _) 4 ((genC zp r.pend)).toList
      rw [← hwz] at hq
      have KO_22 := Lib.hid hq
      clear hq
      have hq := KC_21.out.putX HR_21.out (no8_ring _ _) 4 ((genC zp r.pend)).toList
      rw [← hwz] at hq
      have KC_22 := Lib.hid hq
      clear hq
      have hq := KP_21.out.putX HR_21.out (no8_ring _ _) 4 ((genC zp r.pend)).toList
      rw [← hwz] at hq
      have KP_22 := Lib.hid hq
      clear hq
      have hq := ZO_21.out.putX HR_21.out (no8_ring _ _) 4 ((genC zp r.pend)).toList
      rw [← hwz] at hq
      have ZO_22 := Lib.hid hq
      clear hq
      have hq := ZC_21.out.putX HR_21.out (no8_ring _ _) 4 ((genC zp r.pend)).toList
      rw [← hwz] at hq
      have ZC_22 := Lib.hid hq
      clear hq
      have hq := ZP_21.out.putX HR_21.out (no8_ring _ _) 4 ((genC zp r.pend)).toList
      rw [← hwz] at hq
      have ZP_22 := Lib.hid hq
      clear hq
      rw [← hwz]
      clear hwz
      refine hK.out _ _ (KEEP.out _ BB22.out) (fun hHeld => ?_)
      clear hK K
      (try simp only [Act.put, List.setIfInBounds_toArray, List.set_cons_zero, List.set_cons_succ])
      refine wpAnyH_done (by decide +kernel) ?_ _
      refine NoPanic.normal ?_
      clear KEEP
      obtain ⟨CC, hCC⟩ := isR ⟨zc, zo, zp⟩ r
      rw [← hCC.eq] at HR_22
      have hbl := hCC.bl
      have hsz := hCC.size
      rw [hsz] at hbl
      have HC := Lib.hid hCC
      clear hCC
      go_wp2_with (first | (refine loadX (.tmp 1) W.heap.size CC tyRing HC.out.size HR_22.out rfl rfl rfl ?_) | (refine storeX (.tmp 2) (.tmp 16) (W.heap.size + 1) CC _ tyWork HC.out.size HC.out.one HN_22.out rfl rfl rfl rfl rfl ?_))
      (try dsimp only)
      refine bodyPost_ret (retX1 rfl _ _ (W.heap.size + 1) CC tyWork HC.out.size rfl (Bx.setRow HN_22.out _)) rfl ?_
      have hb := Below.setRowG BB22.out (Nat.le_succ _) CC
      rw [HC.out.eq] at hb ⊢
      exact ⟨⟨_, rfl, RingR.setRow (x := ⟨zc, zo, zp⟩) ⟨ZC_22.out, ZO_22.out, ZP_22.out⟩ HN_22.out (no8_ring _ _)⟩, hb⟩
    refine AllReadyH.cons (o := ?_) ?_ (fun K hK => ?_) ?_
    rotate_left 1
    focus (simp only [List.getElem?_toArray, List.getElem?_cons_succ, List.getElem?_cons_zero] <;> rfl)
    · rw [if_pos (by rfl)]
      refine wp_loadPw (.tmp 6) W.heap.size 0 _ (genC x.cur r.cur) tyGen rfl (part_cur _ _) HR_0.out rfl rfl ?_
      (try simp only [Act.put, List.setIfInBounds_toArray, List.set_cons_zero, List.set_cons_succ])
      refine hK.out _ _ (KEEP.out _ BB0.out) (fun hHeld => ?_)
      clear hK K
      (try simp only [Act.put, List.setIfInBounds_toArray, List.set_cons_zero, List.set_cons_succ])
      refine wpAnyH_ready (rs := [2, 7]) (by decide +kernel) (by simp) ?_
      refine AllReadyH.cons (o := ?_) ?_ (fun K hK => ?_) ?_
      rotate_left 1
      focus (simp only [List.getElem?_toArray, List.getElem?_cons_succ, List.getElem?_cons_zero] <;> rfl)
      · (try rw [if_pos (by rfl)])
        go_simp
        go_at_call 33
        refine (own_any x.old r.old _ HF.out.2.1 KO_0.out).mono ?_
        rintro e wz24 ⟨⟨zo, rfl, hk⟩, hb⟩
        have BB24 := Lib.hid (belG BB0.out hb BB0.out.size)
        have KO_24 := Lib.hid (KO_0.out.go hb)
        have KC_24 := Lib.hid (KC_0.out.go hb)
        have KP_24 := Lib.hid (KP_0.out.go hb)
        have HR_24 := Lib.hid (Bx.go HR_0.out hb)
        have HN_24 := Lib.hid (Bx.go HN_0.out hb)
        have ZO_24 := Lib.hid hk
        clear hk
        clear hb
        refine hK.out _ _ (KEEP.out _ BB24.out) (fun hHeld => ?_)
        clear hK K
        (try simp only [Act.put, List.setIfInBounds_toArray, List.set_cons_zero, List.set_cons_succ])
        refine wpAnyH_ready (rs := [5, 7]) (by decide +kernel) (by simp) ?_
        refine AllReadyH.cons (o := ?_) ?_ (fun K hK => ?_) ?_
        rotate_left 1
        focus (simp only [List.getElem?_toArray, List.getElem?_cons_succ, List.getElem?_cons_zero] <;> rfl)
        · (try rw [if_pos (by rfl)])
          go_simp
          go_at_call 33
          refine (own_any x.cur r.cur _ HF.out.1 KC_24.out).mono ?_
          rintro e wz25 ⟨⟨zc, rfl, hk⟩, hb⟩
          have BB25 := Lib.hid (belG BB24.out hb BB24.out.size)
          have KO_25 := Lib.hid (KO_24.out.go hb)
          have KC_25 := Lib.hid (KC_24.out.go hb)
          have KP_25 := Lib.hid (KP_24.out.go hb)
          have ZO_25 := Lib.hid (ZO_24.out.go hb)
          have HR_25 := Lib.hid (Bx.go HR_24.out hb)
          have HN_25 := Lib.hid (Bx.go HN_24.out hb)
          have ZC_25 := Lib.hid hk
          clear hk
          clear hb
          refine hK.out _ _ (KEEP.out _ BB25.out) (fun hHeld => ?_)
          clear hK K
          (try simp only [Act.put, List.setIfInBounds_toArray, List.set_cons_zero, List.set_cons_succ])
          refine wpAnyH_ready (rs := [7]) (by decide +kernel) (by simp) ?_
          refine AllReadyH.cons (o := ?_) ?_ (fun K hK => ?_) AllReadyH.nil
          rotate_left 1
          focus (simp only [List.getElem?_toArray, List.getElem?_cons_succ, List.getElem?_cons_zero] <;> rfl)
          rw [if_pos (by rfl)]
          refine wp_loadPw (.tmp 9) W.heap.size 4 _ (genC x.pend r.pend) tyGen rfl (part_pend _ _) HR_25.out rfl rfl ?_
          (try simp only [Act.put, List.setIfInBounds_toArray, List.set_cons_zero, List.set_cons_succ])
          refine hK.out _ _ (KEEP.out _ BB25.out) (fun hHeld => ?_)
          clear hK K
          (try simp only [Act.put, List.setIfInBounds_toArray, List.set_cons_zero, List.set_cons_succ])
          refine wpAnyH_take (i := 9) (oi := ?_) (v := ?_) ?_ (by kernel_rfl) (by decide +kernel) (by decide +kernel) (fun _ _ _ h => h) ?_ (by assumption) ?_
          rotate_left 2
          focus (simp only [List.getElem?_toArray, List.getElem?_cons_succ, List.getElem?_cons_zero] <;> rfl)
          · refine Or.inl ⟨by rfl, ?_⟩
            intro w hSw
            (try dsimp only at hSw)
            go_simp <;> with_reducible rfl
          (try simp only [Act.put, List.setIfInBounds_toArray, List.set_cons_zero, List.set_cons_succ])
          refine wpAnyH_ready (rs := [8]) (by decide +kernel) (by simp) ?_
          refine AllReadyH.cons (o := ?_) ?_ (fun K hK => ?_) AllReadyH.nil
          rotate_left 1
          focus (simp only [List.getElem?_toArray, List.getElem?_cons_succ, List.getElem?_cons_zero] <;> rfl)
          (try rw [if_pos (by rfl)])
          go_simp
          go_at_call 33
          refine (own_any x.pend r.pend _ HF.out.2.2 KP_25.out).mono ?_
          rintro e wz27 ⟨⟨zp, rfl, hk⟩, hb⟩
          have BB27 := Lib.hid (belG BB25.out hb BB25.out.size)
          have KO_27 := Lib.hid (KO_25.out.go hb)
          have KC_27 := Lib.hid (KC_25.out.go hb)
          have KP_27 := Lib.hid (KP_25.out.go hb)
          have ZO_27 := Lib.hid (ZO_25.out.go hb)
          have ZC_27 := Lib.hid (ZC_25.out.go hb)
          have HR_27 := Lib.hid (Bx.go HR_25.out hb)
          have HN_27 := Lib.hid (Bx.go HN_25.out hb)
          have ZP_27 := Lib.hid hk
          clear hk
          clear hb
          refine hK.out _ _ (KEEP.out _ BB27.out) (fun hHeld => ?_)
          clear hK K
          (try simp only [Act.put, List.setIfInBounds_toArray, List.set_cons_zero, List.set_cons_succ])
          refine wpAnyH_ready (rs := [10]) (by decide +kernel) (by simp) ?_
          refine AllReadyH.cons (o := ?_) ?_ (fun K hK => ?_) AllReadyH.nil
          rotate_left 1
          focus (simp only [List.getElem?_toArray, List.getElem?_cons_succ, List.getElem?_cons_zero] <;> rfl)
          rw [if_pos (by rfl)]
          refine wp_storePw (.tmp 12) (.tmp 5) W.heap.size 2 _ (genC zo r.old) tyGen rfl (genC_one _ _) HR_27.out (show 2 + 2 ≤ 8 from by decide) rfl rfl rfl ?_
          (try simp only [Act.put])
          obtain ⟨wz28, hwz⟩ : ∃ x, x = wz27.setCells W.heap.size 2 ((genC zo r.old)).toList := ⟨_, rfl⟩
          have BB28 := Lib.hid (show Below W.heap.size W wz28 from by rw [hwz]; exact Below.setCellsG LER.out _ _ _ BB27.out)
          have HR_28 := Lib.hid (show Bx wz28 W.heap.size 26 (ringC ⟨x.cur, zo, x.pend⟩ r) from by rw [hwz]; exact Bx.putP _ _ HR_27.out)
          have hq := Bx.putOther HN_27.out NENR.out 2 ((genC zo r.old)).toList
          rw [← hwz] at hq
          have HN_28 := Lib.hid hq
          clear hq
          have hq := KO_27.out.putX HR_27.out (no8_ring _ _) 2 ((genC zo r.old)).toList
          rw [← hwz] at hq
          have KO_28 := Lib.hid hq
          clear hq
          have hq := KC_27.out.putX HR_27.out (no8_ring _ _) 2 ((genC zo r.old)).toList
          rw [← hwz] at hq
          have KC_28 := Lib.hid hq
          clear hq
          have hq := KP_27.out.putX HR_27.out (no8_ring _ _) 2 ((genC zo r.old)).toList
          rw [← hwz] at hq
          have KP_28 := Lib.hid hq
          clear hq
          have hq := ZO_27.out.putX HR_27.out (no8_ring _ _) 2 ((genC zo r.old)).toList
          rw [← hwz] at hq
          have ZO_28 := Lib.hid hq
          clear hq
          have hq := ZC_27.out.putX HR_27.out (no8_ring _ _) 2 ((genC zo r.old)).toList
          rw [← hwz] at hq
          have ZC_28 := Lib.hid hq
          clear hq
          have hq := ZP_27.out.putX HR_27.out (no8_ring _ _) 2 ((genC zo r.old)).toList
          rw [← hwz] at hq
          have ZP_28 := Lib.hid hq
          clear hq
          rw [← hwz]
          clear hwz
          refine hK.out _ _ (KEEP.out _ BB28.out) (fun hHeld => ?_)
          clear hK K
          (try simp only [Act.put, List.setIfInBounds_toArray, List.set_cons_zero, List.set_cons_succ])
          refine wpAnyH_take (i := 11) (oi := ?_) (v := ?_) ?_ (by kernel_rfl) (by decide +kernel) (by decide +kernel) (fun _ _ _ h => h) ?_ (by assumption) ?_
          rotate_left 2
          focus (simp only [List.getElem?_toArray, List.getElem?_cons_succ, List.getElem?_cons_zero] <;> rfl)
          · refine Or.inl ⟨by rfl, ?_⟩
            intro w hSw
            (try dsimp only at hSw)
            go_simp <;> with_reducible rfl
          (try simp only [Act.put, List.setIfInBounds_toArray, List.set_cons_zero, List.set_cons_succ])
          refine wpAnyH_ready (rs := [12]) (by decide +kernel) (by simp) ?_
          refine AllReadyH.cons (o := ?_) ?_ (fun K hK => ?_) AllReadyH.nil
          rotate_left 1
          focus (simp only [List.getElem?_toArray, List.getElem?_cons_succ, List.getElem?_cons_zero] <;> rfl)
          rw [if_pos (by rfl)]
          refine wp_storePw (.tmp 13) (.tmp 8) W.heap.size 0 _ (genC zc r.cur) tyGen rfl (genC_one _ _) HR_28.out (show 0 + 2 ≤ 8 from by decide) rfl rfl rfl ?_
          (try simp only [Act.put])
          obtain ⟨wz29, hwz⟩ : ∃ x, x = wz28.setCells W.heap.size 0 ((genC zc r.cur)).toList := ⟨_, rfl⟩
          have BB29 := Lib.hid (show Below W.heap.size W wz29 from by rw [hwz]; exact Below.setCellsG LER.out _ _ _ BB28.out)
          have HR_29 := Lib.hid (show Bx wz29 W.heap.size 26 (ringC ⟨zc, zo, x.pend⟩ r) from by rw [hwz]; exact Bx.putP _ _ HR_28.out)
          have hq := Bx.putOther HN_28.out NENR.out 0 ((genC zc r.cur)).toList
          rw [← hwz] at hq
          have HN_29 := Lib.hid hq
          clear hq
          have hq := KO_28.out.putX HR_28.out (no8_ring _ _) 0 ((genC zc r.cur)).toList
          rw [← hwz] at hq
          have KO_29 := Lib.hid hq
          clear hq
          have hq := KC_28.out.putX HR_28.out (no8_ring _ _) 0 ((genC zc r.cur)).toList
          rw [← hwz] at hq
          have KC_29 := Lib.hid hq
          clear hq
          have hq := KP_28.out.putX HR_28.out (no8_ring _ _) 0 ((genC zc r.cur)).toList
          rw [← hwz] at hq
          have KP_29 := Lib.hid hq
          clear hq
          have hq := ZO_28.out.putX HR_28.out (no8_ring _ _) 0 ((genC zc r.cur)).toList
          rw [← hwz] at hq
          have ZO_29 := Lib.hid hq
          clear hq
          have hq := ZC_28.out.putX HR_28.out (no8_ring _ _) 0 ((genC zc r.cur)).toList
          rw [← hwz] at hq
          have ZC_29 := Lib.hid hq
          clear hq
          have hq := ZP_28.out.putX HR_28.out (no8_ring _ _) 0 ((genC zc r.cur)).toList
          rw [← hwz] at hq
          have ZP_29 := Lib.hid hq
          clear hq
          rw [← hwz]
          clear hwz
          refine hK.out _ _ (KEEP.out _ BB29.out) (fun hHeld => ?_)
          clear hK K
          (try simp only [Act.put, List.setIfInBounds_toArray, List.set_cons_zero, List.set_cons_succ])
          refine wpAnyH_take (i := 13) (oi := ?_) (v := ?_) ?_ (by kernel_rfl) (by decide +kernel) (by decide +kernel) (fun _ _ _ h => h) ?_ (by assumption) ?_
          rotate_left 2
          focus (simp only [List.getElem?_toArray, List.getElem?_cons_succ, List.getElem?_cons_zero] <;> rfl)
          · refine Or.inl ⟨by rfl, ?_⟩
            intro w hSw
            (try dsimp only at hSw)
            go_simp <;> with_reducible rfl
          (try simp only [Act.put, List.setIfInBounds_toArray, List.set_cons_zero, List.set_cons_succ])
          refine wpAnyH_ready (rs := [14]) (by decide +kernel) (by simp) ?_
          refine AllReadyH.cons (o := ?_) ?_ (fun K hK => ?_) AllReadyH.nil
          rotate_left 1
          focus (simp only [List.getElem?_toArray, List.getElem?_cons_succ, List.getElem?_cons_zero] <;> rfl)
          rw [if_pos (by rfl)]
          refine wp_storePw (.tmp 14) (.tmp 11) W.heap.size 4 _ (genC zp r.pend) tyGen rfl (genC_one _ _) HR_29.out (show 4 + 2 ≤ 8 from by decide) rfl rfl rfl ?_
          (try simp only [Act.put])
          obtain ⟨wz30, hwz⟩ : ∃ x, x = wz29.setCells W.heap.size 4 ((genC zp r.pend)).toList := ⟨_, rfl⟩
          have BB30 := Lib.hid (show Below W.heap.size W wz30 from by rw [hwz]; exact Below.setCellsG LER.out _ _ _ BB29.out)
          have HR_30 := Lib.hid (show Bx wz30 W.heap.size 26 (ringC ⟨zc, zo, zp⟩ r) from by rw [hwz]; exact Bx.putP _ _ HR_29.out)
          have hq := Bx.putOther HN_29.out NENR.out 4 ((genC zp r.pend)).toList
          rw [← hwz] at hq
          have HN_30 := Lib.hid hq
          clear hq
          have hq := KO_29.out.putX HR_29.out (no8_ring _ _) 4 ((genC zp r.pend)).toList
          rw [← hwz] at hq
          have KO_30 := Lib.hid hq
          clear hq
          have hq := KC_29.out.putX HR_29.out (no8_ring _ _) 4 ((genC zp r.pend)).toList
          rw [← hwz] at hq
          have KC_30 := Lib.hid hq
          clear hq
          have hq := KP_29.out.putX HR_29.out (no8_ring _ _) 4 ((genC zp r.pend)).toList
          rw [← hwz] at hq
          have KP_30 := Lib.hid hq
          clear hq
          have hq := ZO_29.out.putX HR_29.out (no8_ring _ _) 4 ((genC zp r.pend)).toList
          rw [← hwz] at hq
          have ZO_30 := Lib.hid hq
          clear hq
          have hq := ZC_29.out.putX HR_29.out (no8_ring _ _) 4 ((genC zp r.pend)).toList
          rw [← hwz] at hq
          have ZC_30 := Lib.hid hq
          clear hq
          have hq := ZP_29.out.putX HR_29.out (no8_ring _ _) 4 ((genC zp r.pend)).toList
          rw [← hwz] at hq
          have ZP_30 := Lib.hid hq
          clear hq
          rw [← hwz]
          clear hwz
          refine hK.out _ _ (KEEP.out _ BB30.out) (fun hHeld => ?_)
          clear hK K
          (try simp only [Act.put, List.setIfInBounds_toArray, List.set_cons_zero, List.set_cons_succ])
          refine wpAnyH_done (by decide +kernel) ?_ _
          refine NoPanic.normal ?_
          clear KEEP
          obtain ⟨CC, hCC⟩ := isR ⟨zc, zo, zp⟩ r
          rw [← hCC.eq] at HR_30
          have hbl := hCC.bl
          have hsz := hCC.size
          rw [hsz] at hbl
          have HC := Lib.hid hCC
          clear hCC
          go_wp2_with (first | (refine loadX (.tmp 1) W.heap.size CC tyRing HC.out.size HR_30.out rfl rfl rfl ?_) | (refine storeX (.tmp 2) (.tmp 16) (W.heap.size + 1) CC _ tyWork HC.out.size HC.out.one HN_30.out rfl rfl rfl rfl rfl ?_))
          (try dsimp only)
          refine bodyPost_ret (retX1 rfl _ _ (W.heap.size + 1) CC tyWork HC.out.size rfl (Bx.setRow HN_30.out _)) rfl ?_
          have hb := Below.setRowG BB30.out (Nat.le_succ _) CC
          rw [HC.out.eq] at hb ⊢
          exact ⟨⟨_, rfl, RingR.setRow (x := ⟨zc, zo, zp⟩) ⟨ZC_30.out, ZO_30.out, ZP_30.out⟩ HN_30.out (no8_ring _ _)⟩, hb⟩
        refine AllReadyH.cons (o := ?_) ?_ (fun K hK => ?_) AllReadyH.nil
        rotate_left 1
        focus (simp only [List.getElem?_toArray, List.getElem?_cons_succ, List.getElem?_cons_zero] <;> rfl)
        rw [if_pos (by rfl)]
        refine wp_loadPw (.tmp 9) W.heap.size 4 _ (genC x.pend r.pend) tyGen rfl (part_pend _ _) HR_24.out rfl rfl ?_
        (try simp only [Act.put, List.setIfInBounds_toArray, List.set_cons_zero, List.set_cons_succ])
        refine hK.out _ _ (KEEP.out _ BB24.out) (fun hHeld => ?_)
        clear hK K
        (try simp only [Act.put, List.setIfInBounds_toArray, List.set_cons_zero, List.set_cons_succ])
        refine wpAnyH_take (i := 9) (oi := ?_) (v := ?_) ?_ (by kernel_rfl) (by decide +kernel) (by decide +kernel) (fun _ _ _ h => h) ?_ (by assumption) ?_
        rotate_left 2
        focus (simp only [List.getElem?_toArray, List.getElem?_cons_succ, List.getElem?_cons_zero] <;> rfl)
        · refine Or.inl ⟨by rfl, ?_⟩
          intro w hSw
          (try dsimp only at hSw)
          go_simp <;> with_reducible rfl
        (try simp only [Act.put, List.setIfInBounds_toArray, List.set_cons_zero, List.set_cons_succ])
        refine wpAnyH_ready (rs := [5]) (by decide +kernel) (by simp) ?_
        refine AllReadyH.cons (o := ?_) ?_ (fun K hK => ?_) AllReadyH.nil
        rotate_left 1
        focus (simp only [List.getElem?_toArray, List.getElem?_cons_succ, List.getElem?_cons_zero] <;> rfl)
        (try rw [if_pos (by rfl)])
        go_simp
        go_at_call 33
        refine (own_any x.cur r.cur _ HF.out.1 KC_24.out).mono ?_
        rintro e wz32 ⟨⟨zc, rfl, hk⟩, hb⟩
        have BB32 := Lib.hid (belG BB24.out hb BB24.out.size)
        have KO_32 := Lib.hid (KO_24.out.go hb)
        have KC_32 := Lib.hid (KC_24.out.go hb)
        have KP_32 := Lib.hid (KP_24.out.go hb)
        have ZO_32 := Lib.hid (ZO_24.out.go hb)
        have HR_32 := Lib.hid (Bx.go HR_24.out hb)
        have HN_32 := Lib.hid (Bx.go HN_24.out hb)
        have ZC_32 := Lib.hid hk
        clear hk
        clear hb
        refine hK.out _ _ (KEEP.out _ BB32.out) (fun hHeld => ?_)
        clear hK K
        (try simp only [Act.put, List.setIfInBounds_toArray, List.set_cons_zero, List.set_cons_succ])
        refine wpAnyH_ready (rs := [8]) (by decide +kernel) (by simp) ?_
        refine AllReadyH.cons (o := ?_) ?_ (fun K hK => ?_) AllReadyH.nil
        rotate_left 1
        focus (simp only [List.getElem?_toArray, List.getElem?_cons_succ, List.getElem?_cons_zero] <;> rfl)
        (try rw [if_pos (by rfl)])
        go_simp
        go_at_call 33
        refine (own_any x.pend r.pend _ HF.out.2.2 KP_32.out).mono ?_
        rintro e wz33 ⟨⟨zp, rfl, hk⟩, hb⟩
        have BB33 := Lib.hid (belG BB32.out hb BB32.out.size)
        have KO_33 := Lib.hid (KO_32.out.go hb)
        have KC_33 := Lib.hid (KC_32.out.go hb)
        have KP_33 := Lib.hid (KP_32.out.go hb)
        have ZO_33 := Lib.hid (ZO_32.out.go hb)
        have ZC_33 := Lib.hid (ZC_32.out.go hb)
        have HR_33 := Lib.hid (Bx.go HR_32.out hb)
        have HN_33 := Lib.hid (Bx.go HN_32.out hb)
        have ZP_33 := Lib.hid hk
        clear hk
        clear hb
        refine hK.out _ _ (KEEP.out _ BB33.out) (fun hHeld => ?_)
        clear hK K
        (try simp only [Act.put, List.setIfInBounds_toArray, List.set_cons_zero, List.set_cons_succ])
        refine wpAnyH_ready (rs := [10]) (by decide +kernel) (by simp) ?_
        refine AllReadyH.cons (o := ?_) ?_ (fun K hK => ?_) AllReadyH.nil
        rotate_left 1
        focus (simp only [List.getElem?_toArray, List.getElem?_cons_succ, List.getElem?_cons_zero] <;> rfl)
        rw [if_pos (by rfl)]
        refine wp_storePw (.tmp 12) (.tmp 5) W.heap.size 2 _ (genC zo r.old) tyGen rfl (genC_one _ _) HR_33.out (show 2 + 2 ≤ 8 from by decide) rfl rfl rfl ?_
        (try simp only [Act.put])
        obtain ⟨wz34, hwz⟩ : ∃ x, x = wz33.setCells W.heap.size 2 ((genC zo r.old)).toList := ⟨_, rfl⟩
        have BB34 := Lib.hid (show Below W.heap.size W wz34 from by rw [hwz]; exact Below.setCellsG LER.out _ _ _ BB33.out)
        have HR_34 := Lib.hid (show Bx wz34 W.heap.size 26 (ringC ⟨x.cur, zo, x.pend⟩ r) from by rw [hwz]; exact Bx.putP _ _ HR_33.out)
        have hq := Bx.putOther HN_33.out NENR.out 2 ((genC zo r.old)).toList
        rw [← hwz] at hq
        have HN_34 := Lib.hid hq
        clear hq
        have hq := KO_33.out.putX HR_33.out (no8_ring _ _) 2 ((genC zo r.old)).toList
        rw [← hwz] at hq
        have KO_34 := Lib.hid hq
        clear hq
        have hq := KC_33.out.putX HR_33.out (no8_ring _ _) 2 ((genC zo r.old)).toList
        rw [← hwz] at hq
        have KC_34 := Lib.hid hq
        clear hq
        have hq := KP_33.out.putX HR_33.out (no8_ring _ _) 2 ((genC zo r.old)).toList
        rw [← hwz] at hq
        have KP_34 := Lib.hid hq
        clear hq
        have hq := ZO_33.out.putX HR_33.out (no8_ring _ _) 2 ((genC zo r.old)).toList
        rw [← hwz] at hq
        have ZO_34 := Lib.hid hq
        clear hq
        have hq := ZC_33.out.putX HR_33.out (no8_ring _ _) 2 ((genC zo r.old)).toList
        rw [← hwz] at hq
        have ZC_34 := Lib.hid hq
        clear hq
        have hq := ZP_33.out.putX HR_33.out (no8_ring _ _) 2 ((genC zo r.old)).toList
        rw [← hwz] at hq
        have ZP_34 := Lib.hid hq
        clear hq
        rw [← hwz]
        clear hwz
        refine hK.out _ _ (KEEP.out _ BB34.out) (fun hHeld => ?_)
        clear hK K
        (try simp only [Act.put, List.setIfInBounds_toArray, List.set_cons_zero, List.set_cons_succ])
        refine wpAnyH_take (i := 11) (oi := ?_) (v := ?_) ?_ (by kernel_rfl) (by decide +kernel) (by decide +kernel) (fun _ _ _ h => h) ?_ (by assumption) ?_
        rotate_left 2
        focus (simp only [List.getElem?_toArray, List.getElem?_cons_succ, List.getElem?_cons_zero] <;> rfl)
        · refine Or.inl ⟨by rfl, ?_⟩
          intro w hSw
          (try dsimp only at hSw)
          go_simp <;> with_reducible rfl
        (try simp only [Act.put, List.setIfInBounds_toArray, List.set_cons_zero, List.set_cons_succ])
        refine wpAnyH_ready (rs := [12]) (by decide +kernel) (by simp) ?_
        refine AllReadyH.cons (o := ?_) ?_ (fun K hK => ?_) AllReadyH.nil
        rotate_left 1
        focus (simp only [List.getElem?_toArray, List.getElem?_cons_succ, List.getElem?_cons_zero] <;> rfl)
        rw [if_pos (by rfl)]
        refine wp_storePw (.tmp 13) (.tmp 8) W.heap.size 0 _ (genC zc r.cur) tyGen rfl (genC_one _ _) HR_34.out (show 0 + 2 ≤ 8 from by decide) rfl rfl rfl ?_
        (try simp only [Act.put])
        obtain ⟨wz35, hwz⟩ : ∃ x, x = wz34.setCells W.heap.size 0 ((genC zc r.cur)).toList := ⟨_, rfl⟩
        have BB35 := Lib.hid (show Below W.heap.size W wz35 from by rw [hwz]; exact Below.setCellsG LER.out _ _ _ BB34.out)
        have HR_35 := Lib.hid (show Bx wz35 W.heap.size 26 (ringC ⟨zc, zo, x.pend⟩ r) from by rw [hwz]; exact Bx.putP _ _ HR_34.out)
        have hq := Bx.putOther HN_34.out NENR.out 0 ((genC zc r.cur)).toList
        rw [← hwz] at hq
        have HN_35 := Lib.hid hq
        clear hq
        have hq := KO_34.out.putX HR_34.out (no8_ring _ _) 0 ((genC zc r.cur)).toList
        rw [← hwz] at hq
        have KO_35 := Lib.hid hq
        clear hq
        have hq := KC_34.out.putX HR_34.out (no8_ring _ _) 0 ((genC zc r.cur)).toList
        rw [← hwz] at hq
        have KC_35 := Lib.hid hq
        clear hq
        have hq := KP_34.out.putX HR_34.out (no8_ring _ _) 0 ((genC zc r.cur)).toList
        rw [← hwz] at hq
        have KP_35 := Lib.hid hq
        clear hq
        have hq := ZO_34.out.putX HR_34.out (no8_ring _ _) 0 ((genC zc r.cur)).toList
        rw [← hwz] at hq
        have ZO_35 := Lib.hid hq
        clear hq
        have hq := ZC_34.out.putX HR_34.out (no8_ring _ _) 0 ((genC zc r.cur)).toList
        rw [← hwz] at hq
        have ZC_35 := Lib.hid hq
        clear hq
        have hq := ZP_34.out.putX HR_34.out (no8_ring _ _) 0 ((genC zc r.cur)).toList
        rw [← hwz] at hq
        have ZP_35 := Lib.hid hq
        clear hq
        rw [← hwz]
        clear hwz
        refine hK.out _ _ (KEEP.out _ BB35.out) (fun hHeld => ?_)
        clear hK K
        (try simp only [Act.put, List.setIfInBounds_toArray, List.set_cons_zero, List.set_cons_succ])
        refine wpAnyH_take (i := 13) (oi := ?_) (v := ?_) ?_ (by kernel_rfl) (by decide +kernel) (by decide +kernel) (fun _ _ _ h => h) ?_ (by assumption) ?_
        rotate_left 2
        focus (simp only [List.getElem?_toArray, List.getElem?_cons_succ, List.getElem?_cons_zero] <;> rfl)
        · refine Or.inl ⟨by rfl, ?_⟩
          intro w hSw
          (try dsimp only at hSw)
          go_simp <;> with_reducible rfl
        (try simp only [Act.put, List.setIfInBounds_toArray, List.set_cons_zero, List.set_cons_succ])
        refine wpAnyH_ready (rs := [14]) (by decide +kernel) (by simp) ?_
        refine AllReadyH.cons (o := ?_) ?_ (fun K hK => ?_) AllReadyH.nil
        rotate_left 1
        focus (simp only [List.getElem?_toArray, List.getElem?_cons_succ, List.getElem?_cons_zero] <;> rfl)
        rw [if_pos (by rfl)]
        refine wp_storePw (.tmp 14) (.tmp 11) W.heap.size 4 _ (genC zp r.pend) tyGen rfl (genC_one _ _) HR_35.out (show 4 + 2 ≤ 8 from by decide) rfl rfl rfl ?_
        (try simp only [Act.put])
        obtain ⟨wz36, hwz⟩ : ∃ x, x = wz35.setCells W.heap.size 4 ((genC zp r.pend)).toList := ⟨_, rfl⟩
        have BB36 := Lib.hid (show Below W.heap.size W wz36 from by rw [hwz]; exact Below.setCellsG LER.out _ _ _ BB35.out)
        have HR_36 := Lib.hid (show Bx wz36 W.heap.size 26 (ringC ⟨zc, zo, zp⟩ r) from by rw [hwz]; exact Bx.putP _ _ HR_35.out)
        have hq := Bx.putOther HN_35.out NENR.out 4 ((genC zp r.pend)).toList
        rw [← hwz] at hq
        have HN_36 := Lib.hid hq
        clear hq
        have hq := KO_35.out.putX HR_35.out (no8_ring _ _) 4 ((genC zp r.pend)).toList
        rw [← hwz] at hq
        have KO_36 := Lib.hid hq
        clear hq
        have hq := KC_35.out.putX HR_35.out (no8_ring _ _) 4 ((genC zp r.pend)).toList
        rw [← hwz] at hq
        have KC_36 := Lib.hid hq
        clear hq
        have hq := KP_35.out.putX HR_35.out (no8_ring _ _) 4 ((genC zp r.pend)).toList
        rw [← hwz] at hq
        have KP_36 := Lib.hid hq
        clear hq
        have hq := ZO_35.out.putX HR_35.out (no8_ring _ _) 4 ((genC zp r.pend)).toList
        rw [← hwz] at hq
        have ZO_36 := Lib.hid hq
        clear hq
        have hq := ZC_35.out.putX HR_35.out (no8_ring _ _) 4 ((genC zp r.pend)).toList
        rw [← hwz] at hq
        have ZC_36 := Lib.hid hq
        clear hq
        have hq := ZP_35.out.putX HR_35.out (no8_ring _ _) 4 ((genC zp r.pend)).toList
        rw [← hwz] at hq
        have ZP_36 := Lib.hid hq
        clear hq
        rw [← hwz]
        clear hwz
        refine hK.out _ _ (KEEP.out _ BB36.out) (fun hHeld => ?_)
        clear hK K
        (try simp only [Act.put, List.setIfInBounds_toArray, List.set_cons_zero, List.set_cons_succ])
        refine wpAnyH_done (by decide +kernel) ?_ _
        refine NoPanic.normal ?_
        clear KEEP
        obtain ⟨CC, hCC⟩ := isR ⟨zc, zo, zp⟩ r
        rw [← hCC.eq] at HR_36
        have hbl := hCC.bl
        have hsz := hCC.size
        rw [hsz] at hbl
        have HC := Lib.hid hCC
        clear hCC
        go_wp2_with (first | (refine loadX (.tmp 1) W.heap.size CC tyRing HC.out.size HR_36.out rfl rfl rfl ?_) | (refine storeX (.tmp 2) (.tmp 16) (W.heap.size + 1) CC _ tyWork HC.out.size HC.out.one HN_36.out rfl rfl rfl rfl rfl ?_))
        (try dsimp only)
        refine bodyPost_ret (retX1 rfl _ _ (W.heap.size + 1) CC tyWork HC.out.size rfl (Bx.setRow HN_36.out _)) rfl ?_
        have hb := Below.setRowG BB36.out (Nat.le_succ _) CC
        rw [HC.out.eq] at hb ⊢
        exact ⟨⟨_, rfl, RingR.setRow (x := ⟨zc, zo, zp⟩) ⟨ZC_36.out, ZO_36.out, ZP_36.out⟩ HN_36.out (no8_ring _ _)⟩, hb⟩
      refine AllReadyH.cons (o := ?_) ?_ (fun K hK => ?_) AllReadyH.nil
      rotate_left 1
      focus (simp only [List.getElem?_toArray, List.getElem?_cons_succ, List.getElem?_cons_zero] <;> rfl)
      rw [if_pos (by rfl)]
      refine wp_loadPw (.tmp 9) W.heap.size 4 _ (genC x.pend r.pend) tyGen rfl (part_pend _ _) HR_0.out rfl rfl ?_
      (try simp only [Act.put, List.setIfInBounds_toArray, List.set_cons_zero, List.set_cons_succ])
      refine hK.out _ _ (KEEP.out _ BB0.out) (fun hHeld => ?_)
      clear hK K
      (try simp only [Act.put, List.setIfInBounds_toArray, List.set_cons_zero, List.set_cons_succ])
      refine wpAnyH_ready (rs := [2]) (by decide +kernel) (by simp) ?_
      refine AllReadyH.cons (o := ?_) ?_ (fun K hK => ?_) AllReadyH.nil
      rotate_left 1
      focus (simp only [List.getElem?_toArray, List.getElem?_cons_succ, List.getElem?_cons_zero] <;> rfl)
      (try rw [if_pos (by rfl)])
      go_simp
      go_at_call 33
      refine (own_any x.old r.old _ HF.out.2.1 KO_0.out).mono ?_
      rintro e wz38 ⟨⟨zo, rfl, hk⟩, hb⟩
      have BB38 := Lib.hid (belG BB0.out hb BB0.out.size)
      have KO_38 := Lib.hid (KO_0.out.go hb)
      have KC_38 := Lib.hid (KC_0.out.go hb)
      have KP_38 := Lib.hid (KP_0.out.go hb)
      have HR_38 := Lib.hid (Bx.go HR_0.out hb)
      have HN_38 := Lib.hid (Bx.go HN_0.out hb)
      have ZO_38 := Lib.hid hk
      clear hk
      clear hb
      refine hK.out _ _ (KEEP.out _ BB38.out) (fun hHeld => ?_)
      clear hK K
      (try simp only [Act.put, List.setIfInBounds_toArray, List.set_cons_zero, List.set_cons_succ])
      refine wpAnyH_take (i := 9) (oi := ?_) (v := ?_) ?_ (by kernel_rfl) (by decide +kernel) (by decide +kernel) (fun _ _ _ h => h) ?_ (by assumption) ?_
      rotate_left 2
      focus (simp only [List.getElem?_toArray, List.getElem?_cons_succ, List.getElem?_cons_zero] <;> rfl)
      · refine Or.inl ⟨by rfl, ?_⟩
        intro w hSw
        (try dsimp only at hSw)
        go_simp <;> with_reducible rfl
      (try simp only [Act.put, List.setIfInBounds_toArray, List.set_cons_zero, List.set_cons_succ])
      refine wpAnyH_ready (rs := [5]) (by decide +kernel) (by simp) ?_
      refine AllReadyH.cons (o := ?_) ?_ (fun K hK => ?_) AllReadyH.nil
      rotate_left 1
      focus (simp only [List.getElem?_toArray, List.getElem?_cons_succ, List.getElem?_cons_zero] <;> rfl)
      (try rw [if_pos (by rfl)])
      go_simp
      go_at_call 33
      refine (own_any x.cur r.cur _ HF.out.1 KC_38.out).mono ?_
      rintro e wz39 ⟨⟨zc, rfl, hk⟩, hb⟩
      have BB39 := Lib.hid (belG BB38.out hb BB38.out.size)
      have KO_39 := Lib.hid (KO_38.out.go hb)
      have KC_39 := Lib.hid (KC_38.out.go hb)
      have KP_39 := Lib.hid (KP_38.out.go hb)
      have ZO_39 := Lib.hid (ZO_38.out.go hb)
      have HR_39 := Lib.hid (Bx.go HR_38.out hb)
      have HN_39 := Lib.hid (Bx.go HN_38.out hb)
      have ZC_39 := Lib.hid hk
      clear hk
      clear hb
      refine hK.out _ _ (KEEP.out _ BB39.out) (fun hHeld => ?_)
      clear hK K
      (try simp only [Act.put, List.setIfInBounds_toArray, List.set_cons_zero, List.set_cons_succ])
      refine wpAnyH_ready (rs := [8]) (by decide +kernel) (by simp) ?_
      refine AllReadyH.cons (o := ?_) ?_ (fun K hK => ?_) AllReadyH.nil
      rotate_left 1
      focus (simp only [List.getElem?_toArray, List.getElem?_cons_succ, List.getElem?_cons_zero] <;> rfl)
      (try rw [if_pos (by rfl)])
      go_simp
      go_at_call 33
      refine (own_any x.pend r.pend _ HF.out.2.2 KP_39.out).mono ?_
      rintro e wz40 ⟨⟨zp, rfl, hk⟩, hb⟩
      have BB40 := Lib.hid (belG BB39.out hb BB39.out.size)
      have KO_40 := Lib.hid (KO_39.out.go hb)
      have KC_40 := Lib.hid (KC_39.out.go hb)
      have KP_40 := Lib.hid (KP_39.out.go hb)
      have ZO_40 := Lib.hid (ZO_39.out.go hb)
      have ZC_40 := Lib.hid (ZC_39.out.go hb)
      have HR_40 := Lib.hid (Bx.go HR_39.out hb)
      have HN_40 := Lib.hid (Bx.go HN_39.out hb)
      have ZP_40 := Lib.hid hk
      clear hk
      clear hb
      refine hK.out _ _ (KEEP.out _ BB40.out) (fun hHeld => ?_)
      clear hK K
      (try simp only [Act.put, List.setIfInBounds_toArray, List.set_cons_zero, List.set_cons_succ])
      refine wpAnyH_ready (rs := [10]) (by decide +kernel) (by simp) ?_
      refine AllReadyH.cons (o := ?_) ?_ (fun K hK => ?_) AllReadyH.nil
      rotate_left 1
      focus (simp only [List.getElem?_toArray, List.getElem?_cons_succ, List.getElem?_cons_zero] <;> rfl)
      rw [if_pos (by rfl)]
      refine wp_storePw (.tmp 12) (.tmp 5) W.heap.size 2 _ (genC zo r.old) tyGen rfl (genC_one _ _) HR_40.out (show 2 + 2 ≤ 8 from by decide) rfl rfl rfl ?_
      (try simp only [Act.put])
      obtain ⟨wz41, hwz⟩ : ∃ x, x = wz40.setCells W.heap.size 2 ((genC zo r.old)).toList := ⟨_, rfl⟩
      have BB41 := Lib.hid (show Below W.heap.size W wz41 from by rw [hwz]; exact Below.setCellsG LER.out _ _ _ BB40.out)
      have HR_41 := Lib.hid (show Bx wz41 W.heap.size 26 (ringC ⟨x.cur, zo, x.pend⟩ r) from by rw [hwz]; exact Bx.putP _ _ HR_40.out)
      have hq := Bx.putOther HN_40.out NENR.out 2 ((genC zo r.old)).toList
      rw [← hwz] at hq
      have HN_41 := Lib.hid hq
      clear hq
      have hq := KO_40.out.putX HR_40.out (no8_ring _ _) 2 ((genC zo r.old)).toList
      rw [← hwz] at hq
      have KO_41 := Lib.hid hq
      clear hq
      have hq := KC_40.out.putX HR_40.out (no8_ring _ _) 2 ((genC zo r.old)).toList
      rw [← hwz] at hq
      have KC_41 := Lib.hid hq
      clear hq
      have hq := KP_40.out.putX HR_40.out (no8_ring _ _) 2 ((genC zo r.old)).toList
      rw [← hwz] at hq
      have KP_41 := Lib.hid hq
      clear hq
      have hq := ZO_40.out.putX HR_40.out (no8_ring _ _) 2 ((genC zo r.old)).toList
      rw [← hwz] at hq
      have ZO_41 := Lib.hid hq
      clear hq
      have hq := ZC_40.out.putX HR_40.out (no8_ring _ _) 2 ((genC zo r.old)).toList
      rw [← hwz] at hq
      have ZC_41 := Lib.hid hq
      clear hq
      have hq := ZP_40.out.putX HR_40.out (no8_ring _ _) 2 ((genC zo r.old)).toList
      rw [← hwz] at hq
      have ZP_41 := Lib.hid hq
      clear hq
      rw [← hwz]
      clear hwz
      refine hK.out _ _ (KEEP.out _ BB41.out) (fun hHeld => ?_)
      clear hK K
      (try simp only [Act.put, List.setIfInBounds_toArray, List.set_cons_zero, List.set_cons_succ])
      refine wpAnyH_take (i := 11) (oi := ?_) (v := ?_) ?_ (by kernel_rfl) (by decide +kernel) (by decide +kernel) (fun _ _ _ h => h) ?_ (by assumption) ?_
      rotate_left 2
      focus (simp only [List.getElem?_toArray, List.getElem?_cons_succ, List.getElem?_cons_zero] <;> rfl)
      · refine Or.inl ⟨by rfl, ?_⟩
        intro w hSw
        (try dsimp only at hSw)
        go_simp <;> with_reducible rfl
      (try simp only [Act.put, List.setIfInBounds_toArray, List.set_cons_zero, List.set_cons_succ])
      refine wpAnyH_ready (rs := [12]) (by decide +kernel) (by simp) ?_
      refine AllReadyH.cons (o := ?_) ?_ (fun K hK => ?_) AllReadyH.nil
      rotate_left 1
      focus (simp only [List.getElem?_toArray, List.getElem?_cons_succ, List.getElem?_cons_zero] <;> rfl)
      rw [if_pos (by rfl)]
      refine wp_storePw (.tmp 13) (.tmp 8) W.heap.size 0 _ (genC zc r.cur) tyGen rfl (genC_one _ _) HR_41.out (show 0 + 2 ≤ 8 from by decide) rfl rfl rfl ?_
      (try simp only [Act.put])
      obtain ⟨wz42, hwz⟩ : ∃ x, x = wz41.setCells W.heap.size 0 ((genC zc r.cur)).toList := ⟨_, rfl⟩
      have BB42 := Lib.hid (show Below W.heap.size W wz42 from by rw [hwz]; exact Below.setCellsG LER.out _ _ _ BB41.out)
      have HR_42 := Lib.hid (show Bx wz42 W.heap.size 26 (ringC ⟨zc, zo, x.pend⟩ r) from by rw [hwz]; exact Bx.putP _ _ HR_41.out)
      have hq := Bx.putOther HN_41.out NENR.out 0 ((genC zc r.cur)).toList
      rw [← hwz] at hq
      have HN_42 := Lib.hid hq
      clear hq
      have hq := KO_41.out.putX HR_41.out (no8_ring _ _) 0 ((genC zc r.cur)).toList
      rw [← hwz] at hq
      have KO_42 := Lib.hid hq
      clear hq
      have hq := KC_41.out.putX HR_41.out (no8_ring _ _) 0 ((genC zc r.cur)).toList
      rw [← hwz] at hq
      have KC_42 := Lib.hid hq
      clear hq
      have hq := KP_41.out.putX HR_41.out (no8_ring _ _) 0 ((genC zc r.cur)).toList
      rw [← hwz] at hq
      have KP_42 := Lib.hid hq
      clear hq
      have hq := ZO_41.out.putX HR_41.out (no8_ring _ _) 0 ((genC zc r.cur)).toList
      rw [← hwz] at hq
      have ZO_42 := Lib.hid hq
      clear hq
      have hq := ZC_41.out.putX HR_41.out (no8_ring _ _) 0 ((genC zc r.cur)).toList
      rw [← hwz] at hq
      have ZC_42 := Lib.hid hq
      clear hq
      have hq := ZP_41.out.putX HR_41.out (no8_ring _ _) 0 ((genC zc r.cur)).toList
      rw [← hwz] at hq
      have ZP_42 := Lib.hid hq
      clear hq
      rw [← hwz]
      clear hwz
      refine hK.out _ _ (KEEP.out _ BB42.out) (fun hHeld => ?_)
      clear hK K
      (try simp only [Act.put, List.setIfInBounds_toArray, List.set_cons_zero, List.set_cons_succ])
      refine wpAnyH_take (i := 13) (oi := ?_) (v := ?_) ?_ (by kernel_rfl) (by decide +kernel) (by decide +kernel) (fun _ _ _ h => h) ?_ (by assumption) ?_
      rotate_left 2
      focus (simp only [List.getElem?_toArray, List.getElem?_cons_succ, List.getElem?_cons_zero] <;> rfl)
      · refine Or.inl ⟨by rfl, ?_⟩
        intro w hSw
        (try dsimp only at hSw)
        go_simp <;> with_reducible rfl
      (try simp only [Act.put, List.setIfInBounds_toArray, List.set_cons_zero, List.set_cons_succ])
      refine wpAnyH_ready (rs := [14]) (by decide +kernel) (by simp) ?_
      refine AllReadyH.cons (o := ?_) ?_ (fun K hK => ?_) AllReadyH.nil
      rotate_left 1
      focus (simp only [List.getElem?_toArray, List.getElem?_cons_succ, List.getElem?_cons_zero] <;> rfl)
      rw [if_pos (by rfl)]
      refine wp_storePw (.tmp 14) (.tmp 11) W.heap.size 4 _ (genC zp r.pend) tyGen rfl (genC_one _ _) HR_42.out (show 4 + 2 ≤ 8 from by decide) rfl rfl rfl ?_
      (try simp only [Act.put])
      obtain ⟨wz43, hwz⟩ : ∃ x, x = wz42.setCells W.heap.size 4 ((genC zp r.pend)).toList := ⟨_, rfl⟩
      have BB43 := Lib.hid (show Below W.heap.size W wz43 from by rw [hwz]; exact Below.setCellsG LER.out _ _ _ BB42.out)
      have HR_43 := Lib.hid (show Bx wz43 W.heap.size 26 (ringC ⟨zc, zo, zp⟩ r) from by rw [hwz]; exact Bx.putP _ _ HR_42.out)
      have hq := Bx.putOther HN_42.out NENR.out 4 ((genC zp r.pend)).toList
      rw [← hwz] at hq
      have HN_43 := Lib.hid hq
      clear hq
      have hq := KO_42.out.putX HR_42.out (no8_ring _ _) 4 ((genC zp r.pend)).toList
      rw [← hwz] at hq
      have KO_43 := Lib.hid hq
      clear hq
      have hq := KC_42.out.putX HR_42.out (no8_ring _ _) 4 ((genC zp r.pend)).toList
      rw [← hwz] at hq
      have KC_43 := Lib.hid hq
      clear hq
      have hq := KP_42.out.putX HR_42.out (no8_ring _ _) 4 ((genC zp r.pend)).toList
      rw [← hwz] at hq
      have KP_43 := Lib.hid hq
      clear hq
      have hq := ZO_42.out.putX HR_42.out (no8_ring _ _) 4 ((genC zp r.pend)).toList
      rw [← hwz] at hq
      have ZO_43 := Lib.hid hq
      clear hq
      have hq := ZC_42.out.putX HR_42.out (no8_ring _ _) 4 ((genC zp r.pend)).toList
      rw [← hwz] at hq
      have ZC_43 := Lib.hid hq
      clear hq
      have hq := ZP_42.out.putX HR_42.out (no8_ring _ _) 4 ((genC zp r.pend)).toList
      rw [← hwz] at hq
      have ZP_43 := Lib.hid hq
      clear hq
      rw [← hwz]
      clear hwz
      refine hK.out _ _ (KEEP.out _ BB43.out) (fun hHeld => ?_)
      clear hK K
      (try simp only [Act.put, List.setIfInBounds_toArray, List.set_cons_zero, List.set_cons_succ])
      refine wpAnyH_done (by decide +kernel) ?_ _
      refine NoPanic.normal ?_
      clear KEEP
      obtain ⟨CC, hCC⟩ := isR ⟨zc, zo, zp⟩ r
      rw [← hCC.eq] at HR_43
      have hbl := hCC.bl
      have hsz := hCC.size
      rw [hsz] at hbl
      have HC := Lib.hid hCC
      clear hCC
      go_wp2_with (first | (refine loadX (.tmp 1) W.heap.size CC tyRing HC.out.size HR_43.out rfl rfl rfl ?_) | (refine storeX (.tmp 2) (.tmp 16) (W.heap.size + 1) CC _ tyWork HC.out.size HC.out.one HN_43.out rfl rfl rfl rfl rfl ?_))
      (try dsimp only)
      refine bodyPost_ret (retX1 rfl _ _ (W.heap.size + 1) CC tyWork HC.out.size rfl (Bx.setRow HN_43.out _)) rfl ?_
      have hb := Below.setRowG BB43.out (Nat.le_succ _) CC
      rw [HC.out.eq] at hb ⊢
      exact ⟨⟨_, rfl, RingR.setRow (x := ⟨zc, zo, zp⟩) ⟨ZC_43.out, ZO_43.out, ZP_43.out⟩ HN_43.out (no8_ring _ _)⟩, hb⟩
    refine AllReadyH.cons (o := ?_) ?_ (fun K hK => ?_) AllReadyH.nil
    rotate_left 1
    focus (simp only [List.getElem?_toArray, List.getElem?_cons_succ, List.getElem?_cons_zero] <;> rfl)
    rw [if_pos (by rfl)]
    refine wp_loadPw (.tmp 9) W.heap.size 4 _ (genC x.pend r.pend) tyGen rfl (part_pend _ _) HR_0.out rfl rfl ?_
    (try simp only [Act.put, List.setIfInBounds_toArray, List.set_cons_zero, List.set_cons_succ])
    refine hK.out _ _ (KEEP.out _ BB0.out) (fun hHeld => ?_)
    clear hK K
    (try simp only [Act.put, List.setIfInBounds_toArray, List.set_cons_zero, List.set_cons_succ])
    refine wpAnyH_ready (rs := [2, 4]) (by decide +kernel) (by simp) ?_
    refine AllReadyH.cons (o := ?_) ?_ (fun K hK => ?_) ?_
    rotate_left 1
    focus (simp only [List.getElem?_toArray, List.getElem?_cons_succ, List.getElem?_cons_zero] <;> rfl)
    · (try rw [if_pos (by rfl)])
      go_simp
      go_at_call 33
      refine (own_any x.old r.old _ HF.out.2.1 KO_0.out).mono ?_
      rintro e wz45 ⟨⟨zo, rfl, hk⟩, hb⟩
      have BB45 := Lib.hid (belG BB0.out hb BB0.out.size)
      have KO_45 := Lib.hid (KO_0.out.go hb)
      have KC_45 := Lib.hid (KC_0.out.go hb)
      have KP_45 := Lib.hid (KP_0.out.go hb)
      have HR_45 := Lib.hid (Bx.go HR_0.out hb)
      have HN_45 := Lib.hid (Bx.go HN_0.out hb)
      have ZO_45 := Lib.hid hk
      clear hk
      clear hb
      refine hK.out _ _ (KEEP.out _ BB45.out) (fun hHeld => ?_)
      clear hK K
      (try simp only [Act.put, List.setIfInBounds_toArray, List.set_cons_zero, List.set_cons_succ])
      refine wpAnyH_ready (rs := [4]) (by decide +kernel) (by simp) ?_
      refine AllReadyH.cons (o := ?_) ?_ (fun K hK => ?_) AllReadyH.nil
      rotate_left 1
      focus (simp only [List.getElem?_toArray, List.getElem?_cons_succ, List.getElem?_cons_zero] <;> rfl)
      rw [if_pos (by rfl)]
      refine wp_loadPw (.tmp 6) W.heap.size 0 _ (genC x.cur r.cur) tyGen rfl (part_cur _ _) HR_45.out rfl rfl ?_
      (try simp only [Act.put, List.setIfInBounds_toArray, List.set_cons_zero, List.set_cons_succ])
      refine hK.out _ _ (KEEP.out _ BB45.out) (fun hHeld => ?_)
      clear hK K
      (try simp only [Act.put, List.setIfInBounds_toArray, List.set_cons_zero, List.set_cons_succ])
      refine wpAnyH_take (i := 9) (oi := ?_) (v := ?_) ?_ (by kernel_rfl) (by decide +kernel) (by decide +kernel) (fun _ _ _ h => h) ?_ (by assumption) ?_
      rotate_left 2
      focus (simp only [List.getElem?_toArray, List.getElem?_cons_succ, List.getElem?_cons_zero] <;> rfl)
      · refine Or.inl ⟨by rfl, ?_⟩
        intro w hSw
        (try dsimp only at hSw)
        go_simp <;> with_reducible rfl
      (try simp only [Act.put, List.setIfInBounds_toArray, List.set_cons_zero, List.set_cons_succ])
      refine wpAnyH_ready (rs := [5]) (by decide +kernel) (by simp) ?_
      refine AllReadyH.cons (o := ?_) ?_ (fun K hK => ?_) AllReadyH.nil
      rotate_left 1
      focus (simp only [List.getElem?_toArray, List.getElem?_cons_succ, List.getElem?_cons_zero] <;> rfl)
      (try rw [if_pos (by rfl)])
      go_simp
      go_at_call 33
      refine (own_any x.cur r.cur _ HF.out.1 KC_45.out).mono ?_
      rintro e wz47 ⟨⟨zc, rfl, hk⟩, hb⟩
      have BB47 := Lib.hid (belG BB45.out hb BB45.out.size)
      have KO_47 := Lib.hid (KO_45.out.go hb)
      have KC_47 := Lib.hid (KC_45.out.go hb)
      have KP_47 := Lib.hid (KP_45.out.go hb)
      have ZO_47 := Lib.hid (ZO_45.out.go hb)
      have HR_47 := Lib.hid (Bx.go HR_45.out hb)
      have HN_47 := Lib.hid (Bx.go HN_45.out hb)
      have ZC_47 := Lib.hid hk
      clear hk
      clear hb
      refine hK.out _ _ (KEEP.out _ BB47.out) (fun hHeld => ?_)
      clear hK K
      (try simp only [Act.put, List.setIfInBounds_toArray, List.set_cons_zero, List.set_cons_succ])
      refine wpAnyH_ready (rs := [8]) (by decide +kernel) (by simp) ?_
      refine AllReadyH.cons (o := ?_) ?_ (fun K hK => ?_) AllReadyH.nil
      rotate_left 1
      focus (simp only [List.getElem?_toArray, List.getElem?_cons_succ, List.getElem?_cons_zero] <;> rfl)
      (try rw [if_pos (by rfl)])
      go_simp
      go_at_call 33
      refine (own_any x.pend r.pend _ HF.out.2.2 KP_47.out).mono ?_
      rintro e wz48 ⟨⟨zp, rfl, hk⟩, hb⟩
      have BB48 := Lib.hid (belG BB47.out hb BB47.out.size)
      have KO_48 := Lib.hid (KO_47.out.go hb)
      have KC_48 := Lib.hid (KC_47.out.go hb)
      have KP_48 := Lib.hid (KP_47.out.go hb)
      have ZO_48 := Lib.hid (ZO_47.out.go hb)
      have ZC_48 := Lib.hid (ZC_47.out.go hb)
      have HR_48 := Lib.hid (Bx.go HR_47.out hb)
      have HN_48 := Lib.hid (Bx.go HN_47.out hb)
      have ZP_48 := Lib.hid hk
      clear hk
      clear hb
      refine hK.out _ _ (KEEP.out _ BB48.out) (fun hHeld => ?_)
      clear hK K
      (try simp only [Act.put, List.setIfInBounds_toArray, List.set_cons_zero, List.set_cons_succ])
      refine wpAnyH_ready (rs := [10]) (by decide +kernel) (by simp) ?_
      refine AllReadyH.cons (o := ?_) ?_ (fun K hK => ?_) AllReadyH.nil
      rotate_left 1
      focus (simp only [List.getElem?_toArray, List.getElem?_cons_succ, List.getElem?_cons_zero] <;> rfl)
      rw [if_pos (by rfl)]
      refine wp_storePw (.tmp 12) (.tmp 5) W.heap.size 2 _ (genC zo r.old) tyGen rfl (genC_one _ _) HR_48.out (show 2 + 2 ≤ 8 from by decide) rfl rfl rfl ?_
      (try simp only [Act.put])
      obtain ⟨wz49, hwz⟩ : ∃ x, x = wz48.setCells W.heap.size 2 ((genC zo r.old)).toList := ⟨_, rfl⟩
      have BB49 := Lib.hid (show Below W.heap.size W wz49 from by rw [hwz]; exact Below.setCellsG LER.out _ _ _ BB48.out)
      have HR_49 := Lib.hid (show Bx wz49 W.heap.size 26 (ringC ⟨x.cur, zo, x.pend⟩ r) from by rw [hwz]; exact Bx.putP _ _ HR_48.out)
      have hq := Bx.putOther HN_48.out NENR.out 2 ((genC zo r.old)).toList
      rw [← hwz] at hq
      have HN_49 := Lib.hid hq
      clear hq
      have hq := KO_48.out.putX HR_48.out (no8_ring _ _) 2 ((genC zo r.old)).toList
      rw [← hwz] at hq
      have KO_49 := Lib.hid hq
      clear hq
      have hq := KC_48.out.putX HR_48.out (no8_ring _ _) 2 ((genC zo r.old)).toList
      rw [← hwz] at hq
      have KC_49 := Lib.hid hq
      clear hq
      have hq := KP_48.out.putX HR_48.out (no8_ring _ _) 2 ((genC zo r.old)).toList
      rw [← hwz] at hq
      have KP_49 := Lib.hid hq
      clear hq
      have hq := ZO_48.out.putX HR_48.out (no8_ring _ _) 2 ((genC zo r.old)).toList
      rw [← hwz] at hq
      have ZO_49 := Lib.hid hq
      clear hq
      have hq := ZC_48.out.putX HR_48.out (no8_ring _ _) 2 ((genC zo r.old)).toList
      rw [← hwz] at hq
      have ZC_49 := Lib.hid hq
      clear hq
      have hq := ZP_48.out.putX HR_48.out (no8_ring _ _) 2 ((genC zo r.old)).toList
      rw [← hwz] at hq
      have ZP_49 := Lib.hid hq
      clear hq
      rw [← hwz]
      clear hwz
      refine hK.out _ _ (KEEP.out _ BB49.out) (fun hHeld => ?_)
      clear hK K
      (try simp only [Act.put, List.setIfInBounds_toArray, List.set_cons_zero, List.set_cons_succ])
      refine wpAnyH_take (i := 11) (oi := ?_) (v := ?_) ?_ (by kernel_rfl) (by decide +kernel) (by decide +kernel) (fun _ _ _ h => h) ?_ (by assumption) ?_
      rotate_left 2
      focus (simp only [List.getElem?_toArray, List.getElem?_cons_succ, List.getElem?_cons_zero] <;> rfl)
      · refine Or.inl ⟨by rfl, ?_⟩
        intro w hSw
        (try dsimp only at hSw)
        go_simp <;> with_reducible rfl
      (try simp only [Act.put, List.setIfInBounds_toArray, List.set_cons_zero, List.set_cons_succ])
      refine wpAnyH_ready (rs := [12]) (by decide +kernel) (by simp) ?_
      refine AllReadyH.cons (o := ?_) ?_ (fun K hK => ?_) AllReadyH.nil
      rotate_left 1
      focus (simp only [List.getElem?_toArray, List.getElem?_cons_succ, List.getElem?_cons_zero] <;> rfl)
      rw [if_pos (by rfl)]
      refine wp_storePw (.tmp 13) (.tmp 8) W.heap.size 0 _ (genC zc r.cur) tyGen rfl (genC_one _ _) HR_49.out (show 0 + 2 ≤ 8 from by decide) rfl rfl rfl ?_
      (try simp only [Act.put])
      obtain ⟨wz50, hwz⟩ : ∃ x, x = wz49.setCells W.heap.size 0 ((genC zc r.cur)).toList := ⟨_, rfl⟩
      have BB50 := Lib.hid (show Below W.heap.size W wz50 from by rw [hwz]; exact Below.setCellsG LER.out _ _ _ BB49.out)
      have HR_50 := Lib.hid (show Bx wz50 W.heap.size 26 (ringC ⟨zc, zo, x.pend⟩ r) from by rw [hwz]; exact Bx.putP _ _ HR_49.out)
      have hq := Bx.putOther HN_49.out NENR.out 0 ((genC zc r.cur)).toList
      rw [← hwz] at hq
      have HN_50 := Lib.hid hq
      clear hq
      have hq := KO_49.out.putX HR_49.out (no8_ring _ _) 0 ((genC zc r.cur)).toList
      rw [← hwz] at hq
      have KO_50 := Lib.hid hq
      clear hq
      have hq := KC_49.out.putX HR_49.out (no8_ring _ _) 0 ((genC zc r.cur)).toList
      rw [← hwz] at hq
      have KC_50 := Lib.hid hq
      clear hq
      have hq := KP_49.out.putX HR_49.out (no8_ring _ _) 0 ((genC zc r.cur)).toList
      rw [← hwz] at hq
      have KP_50 := Lib.hid hq
      clear hq
      have hq := ZO_49.out.putX HR_49.out (no8_ring _ _) 0 ((genC zc r.cur)).toList
      rw [← hwz] at hq
      have ZO_50 := Lib.hid hq
      clear hq
      have hq := ZC_49.out.putX HR_49.out (no8_ring _ _) 0 ((genC zc r.cur)).toList
      rw [← hwz] at hq
      have ZC_50 := Lib.hid hq
      clear hq
      have hq := ZP_49.out.putX HR_49.out (no8_ring _ _) 0 ((genC zc r.cur)).toList
      rw [← hwz] at hq
      have ZP_50 := Lib.hid hq
      clear hq
      rw [← hwz]
      clear hwz
      refine hK.out _ _ (KEEP.out _ BB50.out) (fun hHeld => ?_)
      clear hK K
      (try simp only [Act.put, List.setIfInBounds_toArray, List.set_cons_zero, List.set_cons_succ])
      refine wpAnyH_take (i := 13) (oi := ?_) (v := ?_) ?_ (by kernel_rfl) (by decide +kernel) (by decide +kernel) (fun _ _ _ h => h) ?_ (by assumption) ?_
      rotate_left 2
      focus (simp only [List.getElem?_toArray, List.getElem?_cons_succ, List.getElem?_cons_zero] <;> rfl)
      · refine Or.inl ⟨by rfl, ?_⟩
        intro w hSw
        (try dsimp only at hSw)
        go_simp <;> with_reducible rfl
      (try simp only [Act.put, List.setIfInBounds_toArray, List.set_cons_zero, List.set_cons_succ])
      refine wpAnyH_ready (rs := [14]) (by decide +kernel) (by simp) ?_
      refine AllReadyH.cons (o := ?_) ?_ (fun K hK => ?_) AllReadyH.nil
      rotate_left 1
      focus (simp only [List.getElem?_toArray, List.getElem?_cons_succ, List.getElem?_cons_zero] <;> rfl)
      rw [if_pos (by rfl)]
      refine wp_storePw (.tmp 14) (.tmp 11) W.heap.size 4 _ (genC zp r.pend) tyGen rfl (genC_one _ _) HR_50.out (show 4 + 2 ≤ 8 from by decide) rfl rfl rfl ?_
      (try simp only [Act.put])
      obtain ⟨wz51, hwz⟩ : ∃ x, x = wz50.setCells W.heap.size 4 ((genC zp r.pend)).toList := ⟨_, rfl⟩
      have BB51 := Lib.hid (show Below W.heap.size W wz51 from by rw [hwz]; exact Below.setCellsG LER.out _ _ _ BB50.out)
      have HR_51 := Lib.hid (show Bx wz51 W.heap.size 26 (ringC ⟨zc, zo, zp⟩ r) from by rw [hwz]; exact Bx.putP _ _ HR_50.out)
      have hq := Bx.putOther HN_50.out NENR.out 4 ((genC zp r.pend)).toList
      rw [← hwz] at hq
      have HN_51 := Lib.hid hq
      clear hq
      have hq := KO_50.out.putX HR_50.out (no8_ring _ _) 4 ((genC zp r.pend)).toList
      rw [← hwz] at hq
      have KO_51 := Lib.hid hq
      clear hq
      have hq := KC_50.out.putX HR_50.out (no8_ring _ _) 4 ((genC zp r.pend)).toList
      rw [← hwz] at hq
      have KC_51 := Lib.hid hq
      clear hq
      have hq := KP_50.out.putX HR_50.out (no8_ring _ _) 4 ((genC zp r.pend)).toList
      rw [← hwz] at hq
      have KP_51 := Lib.hid hq
      clear hq
      have hq := ZO_50.out.putX HR_50.out (no8_ring _ _) 4 ((genC zp r.pend)).toList
      rw [← hwz] at hq
      have ZO_51 := Lib.hid hq
      clear hq
      have hq := ZC_50.out.putX HR_50.out (no8_ring _ _) 4 ((genC zp r.pend)).toList
      rw [← hwz] at hq
      have ZC_51 := Lib.hid hq
      clear hq
      have hq := ZP_50.out.putX HR_50.out (no8_ring _ _) 4 ((genC zp r.pend)).toList
      rw [← hwz] at hq
      have ZP_51 := Lib.hid hq
      clear hq
      rw [← hwz]
      clear hwz
      refine hK.out _ _ (KEEP.out _ BB51.out) (fun hHeld => ?_)
      clear hK K
      (try simp only [Act.put, List.setIfInBounds_toArray, List.set_cons_zero, List.set_cons_succ])
      refine wpAnyH_done (by decide +kernel) ?_ _
      refine NoPanic.normal ?_
      clear KEEP
      obtain ⟨CC, hCC⟩ := isR ⟨zc, zo, zp⟩ r
      rw [← hCC.eq] at HR_51
      have hbl := hCC.bl
      have hsz := hCC.size
      rw [hsz] at hbl
      have HC := Lib.hid hCC
      clear hCC
      go_wp2_with (first | (refine loadX (.tmp 1) W.heap.size CC tyRing HC.out.size HR_51.out rfl rfl rfl ?_) | (refine storeX (.tmp 2) (.tmp 16) (W.heap.size + 1) CC _ tyWork HC.out.size HC.out.one HN_51.out rfl rfl rfl rfl rfl ?_))
      (try dsimp only)
      refine bodyPost_ret (retX1 rfl _ _ (W.heap.size + 1) CC tyWork HC.out.size rfl (Bx.setRow HN_51.out _)) rfl ?_
      have hb := Below.setRowG BB51.out (Nat.le_succ _) CC
      rw [HC.out.eq] at hb ⊢
      exact ⟨⟨_, rfl, RingR.setRow (x := ⟨zc, zo, zp⟩) ⟨ZC_51.out, ZO_51.out, ZP_51.out⟩ HN_51.out (no8_ring _ _)⟩, hb⟩
    refine AllReadyH.cons (o := ?_) ?_ (fun K hK => ?_) AllReadyH.nil
    rotate_left 1
    focus (simp only [List.getElem?_toArray, List.getElem?_cons_succ, List.getElem?_cons_zero] <;> rfl)
    rw [if_pos (by rfl)]
    refine wp_loadPw (.tmp 6) W.heap.size 0 _ (genC x.cur r.cur) tyGen rfl (part_cur _ _) HR_0.out rfl rfl ?_
    (try simp only [Act.put, List.setIfInBounds_toArray, List.set_cons_zero, List.set_cons_succ])
    refine hK.out _ _ (KEEP.out _ BB0.out) (fun hHeld => ?_)
    clear hK K
    (try simp only [Act.put, List.setIfInBounds_toArray, List.set_cons_zero, List.set_cons_succ])
    refine wpAnyH_ready (rs := [2]) (by decide +kernel) (by simp) ?_
    refine AllReadyH.cons (o := ?_) ?_ (fun K hK => ?_) AllReadyH.nil
    rotate_left 1
    focus (simp only [List.getElem?_toArray, List.getElem?_cons_succ, List.getElem?_cons_zero] <;> rfl)
    (try rw [if_pos (by rfl)])
    go_simp
    go_at_call 33
    refine (own_any x.old r.old _ HF.out.2.1 KO_0.out).mono ?_
    rintro e wz53 ⟨⟨zo, rfl, hk⟩, hb⟩
    have BB53 := Lib.hid (belG BB0.out hb BB0.out.size)
    have KO_53 := Lib.hid (KO_0.out.go hb)
    have KC_53 := Lib.hid (KC_0.out.go hb)
    have KP_53 := Lib.hid (KP_0.out.go hb)
    have HR_53 := Lib.hid (Bx.go HR_0.out hb)
    have HN_53 := Lib.hid (Bx.go HN_0.out hb)
    have ZO_53 := Lib.hid hk
    clear hk
    clear hb
    refine hK.out _ _ (KEEP.out _ BB53.out) (fun hHeld => ?_)
    clear hK K
    (try simp only [Act.put, List.setIfInBounds_toArray, List.set_cons_zero, List.set_cons_succ])
    refine wpAnyH_take (i := 9) (oi := ?_) (v := ?_) ?_ (by kernel_rfl) (by decide +kernel) (by decide +kernel) (fun _ _ _ h => h) ?_ (by assumption) ?_
    rotate_left 2
    focus (simp only [List.getElem?_toArray, List.getElem?_cons_succ, List.getElem?_cons_zero] <;> rfl)
    · refine Or.inl ⟨by rfl, ?_⟩
      intro w hSw
      (try dsimp only at hSw)
      go_simp <;> with_reducible rfl
    (try simp only [Act.put, List.setIfInBounds_toArray, List.set_cons_zero, List.set_cons_succ])
    refine wpAnyH_ready (rs := [5]) (by decide +kernel) (by simp) ?_
    refine AllReadyH.cons (o := ?_) ?_ (fun K hK => ?_) AllReadyH.nil
    rotate_left 1
    focus (simp only [List.getElem?_toArray, List.getElem?_cons_succ, List.getElem?_cons_zero] <;> rfl)
    (try rw [if_pos (by rfl)])
    go_simp
    go_at_call 33
    refine (own_any x.cur r.cur _ HF.out.1 KC_53.out).mono ?_
    rintro e wz54 ⟨⟨zc, rfl, hk⟩, hb⟩
    have BB54 := Lib.hid (belG BB53.out hb BB53.out.size)
    have KO_54 := Lib.hid (KO_53.out.go hb)
    have KC_54 := Lib.hid (KC_53.out.go hb)
    have KP_54 := Lib.hid (KP_53.out.go hb)
    have ZO_54 := Lib.hid (ZO_53.out.go hb)
    have HR_54 := Lib.hid (Bx.go HR_53.out hb)
    have HN_54 := Lib.hid (Bx.go HN_53.out hb)
    have ZC_54 := Lib.hid hk
    clear hk
    clear hb
    refine hK.out _ _ (KEEP.out _ BB54.out) (fun hHeld => ?_)
    clear hK K
    (try simp only [Act.put, List.setIfInBounds_toArray, List.set_cons_zero, List.set_cons_succ])
    refine wpAnyH_ready (rs := [8]) (by decide +kernel) (by simp) ?_
    refine AllReadyH.cons (o := ?_) ?_ (fun K hK => ?_) AllReadyH.nil
    rotate_left 1
    focus (simp only [List.getElem?_toArray, List.getElem?_cons_succ, List.getElem?_cons_zero] <;> rfl)
    (try rw [if_pos (by rfl)])
    go_simp
    go_at_call 33
    refine (own_any x.pend r.pend _ HF.out.2.2 KP_54.out).mono ?_
    rintro e wz55 ⟨⟨zp, rfl, hk⟩, hb⟩
    have BB55 := Lib.hid (belG BB54.out hb BB54.out.size)
    have KO_55 := Lib.hid (KO_54.out.go hb)
    have KC_55 := Lib.hid (KC_54.out.go hb)
    have KP_55 := Lib.hid (KP_54.out.go hb)
    have ZO_55 := Lib.hid (ZO_54.out.go hb)
    have ZC_55 := Lib.hid (ZC_54.out.go hb)
    have HR_55 := Lib.hid (Bx.go HR_54.out hb)
    have HN_55 := Lib.hid (Bx.go HN_54.out hb)
    have ZP_55 := Lib.hid hk
    clear hk
    clear hb
    refine hK.out _ _ (KEEP.out _ BB55.out) (fun hHeld => ?_)
    clear hK K
    (try simp only [Act.put, List.setIfInBounds_toArray, List.set_cons_zero, List.set_cons_succ])
    refine wpAnyH_ready (rs := [10]) (by decide +kernel) (by simp) ?_
    refine AllReadyH.cons (o := ?_) ?_ (fun K hK => ?_) AllReadyH.nil
    rotate_left 1
    focus (simp only [List.getElem?_toArray, List.getElem?_cons_succ, List.getElem?_cons_zero] <;> rfl)
    rw [if_pos (by rfl)]
    refine wp_storePw (.tmp 12) (.tmp 5) W.heap.size 2 _ (genC zo r.old) tyGen rfl (genC_one _ _) HR_55.out (show 2 + 2 ≤ 8 from by decide) rfl rfl rfl ?_
    (try simp only [Act.put])
    obtain ⟨wz56, hwz⟩ : ∃ x, x = wz55.setCells W.heap.size 2 ((genC zo r.old)).toList := ⟨_, rfl⟩
    have BB56 := Lib.hid (show Below W.heap.size W wz56 from by rw [hwz]; exact Below.setCellsG LER.out _ _ _ BB55.out)
    have HR_56 := Lib.hid (show Bx wz56 W.heap.size 26 (ringC ⟨x.cur, zo, x.pend⟩ r) from by rw [hwz]; exact Bx.putP _ _ HR_55.out)
    have hq := Bx.putOther HN_55.out NENR.out 2 ((genC zo r.old)).toList
    rw [← hwz] at hq
    have HN_56 := Lib.hid hq
    clear hq
    have hq := KO_55.out.putX HR_55.out (no8_ring _ _) 2 ((genC zo r.old)).toList
    rw [← hwz] at hq
    have KO_56 := Lib.hid hq
    clear hq
    have hq := KC_55.out.putX HR_55.out (no8_ring _ _) 2 ((genC zo r.old)).toList
    rw [← hwz] at hq
    have KC_56 := Lib.hid hq
    clear hq
    have hq := KP_55.out.putX HR_55.out (no8_ring _ _) 2 ((genC zo r.old)).toList
    rw [← hwz] at hq
    have KP_56 := Lib.hid hq
    clear hq
    have hq := ZO_55.out.putX HR_55.out (no8_ring _ _) 2 ((genC zo r.old)).toList
    rw [← hwz] at hq
    have ZO_56 := Lib.hid hq
    clear hq
    have hq := ZC_55.out.putX HR_55.out (no8_ring _ _) 2 ((genC zo r.old)).toList
    rw [← hwz] at hq
    have ZC_56 := Lib.hid hq
    clear hq
    have hq := ZP_55.out.putX HR_55.out (no8_ring _ _) 2 ((genC zo r.old)).toList
    rw [← hwz] at hq
    have ZP_56 := Lib.hid hq
    clear hq
    rw [← hwz]
    clear hwz
    refine hK.out _ _ (KEEP.out _ BB56.out) (fun hHeld => ?_)
    clear hK K
    (try simp only [Act.put, List.setIfInBounds_toArray, List.set_cons_zero, List.set_cons_succ])
    refine wpAnyH_take (i := 11) (oi := ?_) (v := ?_) ?_ (by kernel_rfl) (by decide +kernel) (by decide +kernel) (fun _ _ _ h => h) ?_ (by assumption) ?_
    rotate_left 2
    focus (simp only [List.getElem?_toArray, List.getElem?_cons_succ, List.getElem?_cons_zero] <;> rfl)
    · refine Or.inl ⟨by rfl, ?_⟩
      intro w hSw
      (try dsimp only at hSw)
      go_simp <;> with_reducible rfl
    (try simp only [Act.put, List.setIfInBounds_toArray, List.set_cons_zero, List.set_cons_succ])
    refine wpAnyH_ready (rs := [12]) (by decide +kernel) (by simp) ?_
    refine AllReadyH.cons (o := ?_) ?_ (fun K hK => ?_) AllReadyH.nil
    rotate_left 1
    focus (simp only [List.getElem?_toArray, List.getElem?_cons_succ, List.getElem?_cons_zero] <;> rfl)
    rw [if_pos (by rfl)]
    refine wp_storePw (.tmp 13) (.tmp 8) W.heap.size 0 _ (genC zc r.cur) tyGen rfl (genC_one _ _) HR_56.out (show 0 + 2 ≤ 8 from by decide) rfl rfl rfl ?_
    (try simp only [Act.put])
    obtain ⟨wz57, hwz⟩ : ∃ x, x = wz56.setCells W.heap.size 0 ((genC zc r.cur)).toList := ⟨_, rfl⟩
    have BB57 := Lib.hid (show Below W.heap.size W wz57 from by rw [hwz]; exact Below.setCellsG LER.out _ _ _ BB56.out)
    have HR_57 := Lib.hid (show Bx wz57 W.heap.size 26 (ringC ⟨zc, zo, x.pend⟩ r) from by rw [hwz]; exact Bx.putP _ _ HR_56.out)
    have hq := Bx.putOther HN_56.out NENR.out 0 ((genC zc r.cur)).toList
    rw [← hwz] at hq
    have HN_57 := Lib.hid hq
    clear hq
    have hq := KO_56.out.putX HR_56.out (no8_ring _ _) 0 ((genC zc r.cur)).toList
    rw [← hwz] at hq
    have KO_57 := Lib.hid hq
    clear hq
    have hq := KC_56.out.putX HR_56.out (no8_ring _ _) 0 ((genC zc r.cur)).toList
    rw [← hwz] at hq
    have KC_57 := Lib.hid hq
    clear hq
    have hq := KP_56.out.putX HR_56.out (no8_ring _ _) 0 ((genC zc r.cur)).toList
    rw [← hwz] at hq
    have KP_57 := Lib.hid hq
    clear hq
    have hq := ZO_56.out.putX HR_56.out (no8_ring _ _) 0 ((genC zc r.cur)).toList
    rw [← hwz] at hq
    have ZO_57 := Lib.hid hq
    clear hq
    have hq := ZC_56.out.putX HR_56.out (no8_ring _ _) 0 ((genC zc r.cur)).toList
    rw [← hwz] at hq
    have ZC_57 := Lib.hid hq
    clear hq
    have hq := ZP_56.out.putX HR_56.out (no8_ring _ _) 0 ((genC zc r.cur)).toList
    rw [← hwz] at hq
    have ZP_57 := Lib.hid hq
    clear hq
    rw [← hwz]
    clear hwz
    refine hK.out _ _ (KEEP.out _ BB57.out) (fun hHeld => ?_)
    clear hK K
    (try simp only [Act.put, List.setIfInBounds_toArray, List.set_cons_zero, List.set_cons_succ])
    refine wpAnyH_take (i := 13) (oi := ?_) (v := ?_) ?_ (by kernel_rfl) (by decide +kernel) (by decide +kernel) (fun _ _ _ h => h) ?_ (by assumption) ?_
    rotate_left 2
    focus (simp only [List.getElem?_toArray, List.getElem?_cons_succ, List.getElem?_cons_zero] <;> rfl)
    · refine Or.inl ⟨by rfl, ?_⟩
      intro w hSw
      (try dsimp only at hSw)
      go_simp <;> with_reducible rfl
    (try simp only [Act.put, List.setIfInBounds_toArray, List.set_cons_zero, List.set_cons_succ])
    refine wpAnyH_ready (rs := [14]) (by decide +kernel) (by simp) ?_
    refine AllReadyH.cons (o := ?_) ?_ (fun K hK => ?_) AllReadyH.nil
    rotate_left 1
    focus (simp only [List.getElem?_toArray, List.getElem?_cons_succ, List.getElem?_cons_zero] <;> rfl)
    rw [if_pos (by rfl)]
    refine wp_storePw (.tmp 14) (.tmp 11) W.heap.size 4 _ (genC zp r.pend) tyGen rfl (genC_one _ _) HR_57.out (show 4 + 2 ≤ 8 from by decide) rfl rfl rfl ?_
    (try simp only [Act.put])
    obtain ⟨wz58, hwz⟩ : ∃ x, x = wz57.setCells W.heap.size 4 ((genC zp r.pend)).toList := ⟨_, rfl⟩
    have BB58 := Lib.hid (show Below W.heap.size W wz58 from by rw [hwz]; exact Below.setCellsG LER.out _ _ _ BB57.out)
    have HR_58 := Lib.hid (show Bx wz58 W.heap.size 26 (ringC ⟨zc, zo, zp⟩ r) from by rw [hwz]; exact Bx.putP _ _ HR_57.out)
    have hq := Bx.putOther HN_57.out NENR.out 4 ((genC zp r.pend)).toList
    rw [← hwz] at hq
    have HN_58 := Lib.hid hq
    clear hq
    have hq := KO_57.out.putX HR_57.out (no8_ring _ _) 4 ((genC zp r.pend)).toList
    rw [← hwz] at hq
    have KO_58 := Lib.hid hq
    clear hq
    have hq := KC_57.out.putX HR_57.out (no8_ring _ _) 4 ((genC zp r.pend)).toList
    rw [← hwz] at hq
    have KC_58 := Lib.hid hq
    clear hq
    have hq := KP_57.out.putX HR_57.out (no8_ring _ _) 4 ((genC zp r.pend)).toList
    rw [← hwz] at hq
    have KP_58 := Lib.hid hq
    clear hq
    have hq := ZO_57.out.putX HR_57.out (no8_ring _ _) 4 ((genC zp r.pend)).toList
    rw [← hwz] at hq
    have ZO_58 := Lib.hid hq
    clear hq
    have hq := ZC_57.out.putX HR_57.out (no8_ring _ _) 4 ((genC zp r.pend)).toList
    rw [← hwz] at hq
    have ZC_58 := Lib.hid hq
    clear hq
    have hq := ZP_57.out.putX HR_57.out (no8_ring _ _) 4 ((genC zp r.pend)).toList
    rw [← hwz] at hq
    have ZP_58 := Lib.hid hq
    clear hq
    rw [← hwz]
    clear hwz
    refine hK.out _ _ (KEEP.out _ BB58.out) (fun hHeld => ?_)
    clear hK K
    (try simp only [Act.put, List.setIfInBounds_toArray, List.set_cons_zero, List.set_cons_succ])
    refine wpAnyH_done (by decide +kernel) ?_ _
    refine NoPanic.normal ?_
    clear KEEP
    obtain ⟨CC, hCC⟩ := isR ⟨zc, zo, zp⟩ r
    rw [← hCC.eq] at HR_58
    have hbl := hCC.bl
    have hsz := hCC.size
    rw [hsz] at hbl
    have HC := Lib.hid hCC
    clear hCC
    go_wp2_with (first | (refine loadX (.tmp 1) W.heap.size CC tyRing HC.out.size HR_58.out rfl rfl rfl ?_) | (refine storeX (.tmp 2) (.tmp 16) (W.heap.size + 1) CC _ tyWork HC.out.size HC.out.one HN_58.out rfl rfl rfl rfl rfl ?_))
    (try dsimp only)
    refine bodyPost_ret (retX1 rfl _ _ (W.heap.size + 1) CC tyWork HC.out.size rfl (Bx.setRow HN_58.out _)) rfl ?_
    have hb := Below.setRowG BB58.out (Nat.le_succ _) CC
    rw [HC.out.eq] at hb ⊢
    exact ⟨⟨_, rfl, RingR.setRow (x := ⟨zc, zo, zp⟩) ⟨ZC_58.out, ZO_58.out, ZP_58.out⟩ HN_58.out (no8_ring _ _)⟩, hb⟩
  refine AllReadyH.cons (o := ?_) ?_ (fun K hK => ?_) ?_
  rotate_left 1
  focus (simp only [List.getElem?_toArray, List.getElem?_cons_succ, List.getElem?_cons_zero] <;> rfl)
  · rw [if_pos (by rfl)]
    refine wp_loadPw (.tmp 6) W.heap.size 0 _ (genC x.cur r.cur) tyGen rfl (part_cur _ _) HR_0.out rfl rfl ?_
    (try simp only [Act.put, List.setIfInBounds_toArray, List.set_cons_zero, List.set_cons_succ])
    refine hK.out _ _ (KEEP.out _ BB0.out) (fun hHeld => ?_)
    clear hK K
    (try simp only [Act.put, List.setIfInBounds_toArray, List.set_cons_zero, List.set_cons_succ])
    refine wpAnyH_ready (rs := [1, 7]) (by decide +kernel) (by simp) ?_
    refine AllReadyH.cons (o := ?_) ?_ (fun K hK => ?_) ?_
    rotate_left 1
    focus (simp only [List.getElem?_toArray, List.getElem?_cons_succ, List.getElem?_cons_zero] <;> rfl)
    · rw [if_pos (by rfl)]
      refine wp_loadPw (.tmp 3) W.heap.size 2 _ (genC x.old r.old) tyGen rfl (part_old _ _) HR_0.out rfl rfl ?_
      (try simp only [Act.put, List.setIfInBounds_toArray, List.set_cons_zero, List.set_cons_succ])
      refine hK.out _ _ (KEEP.out _ BB0.out) (fun hHeld => ?_)
      clear hK K
      (try simp only [Act.put, List.setIfInBounds_toArray, List.set_cons_zero, List.set_cons_succ])
      refine wpAnyH_ready (rs := [2, 7]) (by decide +kernel) (by simp) ?_
      refine AllReadyH.cons (o := ?_) ?_ (fun K hK => ?_) ?_
      rotate_left 1
      focus (simp only [List.getElem?_toArray, List.getElem?_cons_succ, List.getElem?_cons_zero] <;> rfl)
      · (try rw [if_pos (by rfl)])
        go_simp
        go_at_call 33
        refine (own_any x.old r.old _ HF.out.2.1 KO_0.out).mono ?_
        rintro e wz61 ⟨⟨zo, rfl, hk⟩, hb⟩
        have BB61 := Lib.hid (belG BB0.out hb BB0.out.size)
        have KO_61 := Lib.hid (KO_0.out.go hb)
        have KC_61 := Lib.hid (KC_0.out.go hb)
        have KP_61 := Lib.hid (KP_0.out.go hb)
        have HR_61 := Lib.hid (Bx.go HR_0.out hb)
        have HN_61 := Lib.hid (Bx.go HN_0.out hb)
        have ZO_61 := Lib.hid hk
        clear hk
        clear hb
        refine hK.out _ _ (KEEP.out _ BB61.out) (fun hHeld => ?_)
        clear hK K
        (try simp only [Act.put, List.setIfInBounds_toArray, List.set_cons_zero, List.set_cons_succ])
        refine wpAnyH_ready (rs := [5, 7]) (by decide +kernel) (by simp) ?_
        refine AllReadyH.cons (o := ?_) ?_ (fun K hK => ?_) ?_
        rotate_left 1
        focus (simp only [List.getElem?_toArray, List.getElem?_cons_succ, List.getElem?_cons_zero] <;> rfl)
        · (try rw [if_pos (by rfl)])
          go_simp
          go_at_call 33
          refine (own_any x.cur r.cur _ HF.out.1 KC_61.out).mono ?_
          rintro e wz62 ⟨⟨zc, rfl, hk⟩, hb⟩
          have BB62 := Lib.hid (belG BB61.out hb BB61.out.size)
          have KO_62 := Lib.hid (KO_61.out.go hb)
          have KC_62 := Lib.hid (KC_61.out.go hb)
          have KP_62 := Lib.hid (KP_61.out.go hb)
          have ZO_62 := Lib.hid (ZO_61.out.go hb)
          have HR_62 := Lib.hid (Bx.go HR_61.out hb)
          have HN_62 := Lib.hid (Bx.go HN_61.out hb)
          have ZC_62 := Lib.hid hk
          clear hk
          clear hb
          refine hK.out _ _ (KEEP.out _ BB62.out) (fun hHeld => ?_)
          clear hK K
          (try simp only [Act.put, List.setIfInBounds_toArray, List.set_cons_zero, List.set_cons_succ])
          refine wpAnyH_ready (rs := [7]) (by decide +kernel) (by simp) ?_
          refine AllReadyH.cons (o := ?_) ?_ (fun K hK => ?_) AllReadyH.nil
          rotate_left 1
          focus (simp only [List.getElem?_toArray, List.getElem?_cons_succ, List.getElem?_cons_zero] <;> rfl)
          rw [if_pos (by rfl)]
          refine wp_loadPw (.tmp 9) W.heap.size 4 _ (genC x.pend r.pend) tyGen rfl (part_pend _ _) HR_62.out rfl rfl ?_
          (try simp only [Act.put, List.setIfInBounds_toArray, List.set_cons_zero, List.set_cons_succ])
          refine hK.out _ _ (KEEP.out _ BB62.out) (fun hHeld => ?_)
          clear hK K
          (try simp only [Act.put, List.setIfInBounds_toArray, List.set_cons_zero, List.set_cons_succ])
          refine wpAnyH_take (i := 9) (oi := ?_) (v := ?_) ?_ (by kernel_rfl) (by decide +kernel) (by decide +kernel) (fun _ _ _ h => h) ?_ (by assumption) ?_
          rotate_left 2
          focus (simp only [List.getElem?_toArray, List.getElem?_cons_succ, List.getElem?_cons_zero] <;> rfl)
          · refine Or.inl ⟨by rfl, ?_⟩
            intro w hSw
            (try dsimp only at hSw)
            go_simp <;> with_reducible rfl
          (try simp only [Act.put, List.setIfInBounds_toArray, List.set_cons_zero, List.set_cons_succ])
          refine wpAnyH_ready (rs := [8]) (by decide +kernel) (by simp) ?_
          refine AllReadyH.cons (o := ?_) ?_ (fun K hK => ?_) AllReadyH.nil
          rotate_left 1
          focus (simp only [List.getElem?_toArray, List.getElem?_cons_succ, List.getElem?_cons_zero] <;> rfl)
          (try rw [if_pos (by rfl)])
          go_simp
          go_at_call 33
          refine (own_any x.pend r.pend _ HF.out.2.2 KP_62.out).mono ?_
          rintro e wz64 ⟨⟨zp, rfl, hk⟩, hb⟩
          have BB64 := Lib.hid (belG BB62.out hb BB62.out.size)
          have KO_64 := Lib.hid (KO_62.out.go hb)
          have KC_64 := Lib.hid (KC_62.out.go hb)
          have KP_64 := Lib.hid (KP_62.out.go hb)
          have ZO_64 := Lib.hid (ZO_62.out.go hb)
          have ZC_64 := Lib.hid (ZC_62.out.go hb)
          have HR_64 := Lib.hid (Bx.go HR_62.out hb)
          have HN_64 := Lib.hid (Bx.go HN_62.out hb)
          have ZP_64 := Lib.hid hk
          clear hk
          clear hb
          refine hK.out _ _ (KEEP.out _ BB64.out) (fun hHeld => ?_)
          clear hK K
          (try simp only [Act.put, List.setIfInBounds_toArray, List.set_cons_zero, List.set_cons_succ])
          refine wpAnyH_ready (rs := [10]) (by decide +kernel) (by simp) ?_
          refine AllReadyH.cons (o := ?_) ?_ (fun K hK => ?_) AllReadyH.nil
          rotate_left 1
          focus (simp only [List.getElem?_toArray, List.getElem?_cons_succ, List.getElem?_cons_zero] <;> rfl)
          rw [if_pos (by rfl)]
          refine wp_storePw (.tmp 12) (.tmp 5) W.heap.size 2 _ (genC zo r.old) tyGen rfl (genC_one _ _) HR_64.out (show 2 + 2 ≤ 8 from by decide) rfl rfl rfl ?_
          (try simp only [Act.put])
          obtain ⟨wz65, hwz⟩ : ∃ x, x = wz64.setCells W.heap.size 2 ((genC zo r.old)).toList := ⟨_, rfl⟩
          have BB65 := Lib.hid (show Below W.heap.size W wz65 from by rw [hwz]; exact Below.setCellsG LER.out _ _ _ BB64.out)
          have HR_65 := Lib.hid (show Bx wz65 W.heap.size 26 (ringC ⟨x.cur, zo, x.pend⟩ r) from by rw [hwz]; exact Bx.putP _ _ HR_64.out)
          have hq := Bx.putOther HN_64.out NENR.out 2 ((genC zo r.old)).toList
          rw [← hwz] at hq
          have HN_65 := Lib.hid hq
          clear hq
          have hq := KO_64.out.putX HR_64.out (no8_ring _ _) 2 ((genC zo r.old)).toList
          rw [← hwz] at hq
          have KO_65 := Lib.hid hq
          clear hq
          have hq := KC_64.out.putX HR_64.out (no8_ring _ _) 2 ((genC zo r.old)).toList
          rw [← hwz] at hq
          have KC_65 := Lib.hid hq
          clear hq
          have hq := KP_64.out.putX HR_64.out (no8_ring _ _) 2 ((genC zo r.old)).toList
          rw [← hwz] at hq
          have KP_65 := Lib.hid hq
          clear hq
          have hq := ZO_64.out.putX HR_64.out (no8_ring _ _) 2 ((genC zo r.old)).toList
          rw [← hwz] at hq
          have ZO_65 := Lib.hid hq
          clear hq
          have hq := ZC_64.out.putX HR_64.out (no8_ring _ _) 2 ((genC zo r.old)).toList
          rw [← hwz] at hq
          have ZC_65 := Lib.hid hq
          clear hq
          have hq := ZP_64.out.putX HR_64.out (no8_ring _ _) 2 ((genC zo r.old)).toList
          rw [← hwz] at hq
          have ZP_65 := Lib.hid hq
          clear hq
          rw [← hwz]
          clear hwz
          refine hK.out _ _ (KEEP.out _ BB65.out) (fun hHeld => ?_)
          clear hK K
          (try simp only [Act.put, List.setIfInBounds_toArray, List.set_cons_zero, List.set_cons_succ])
          refine wpAnyH_take (i := 11) (oi := ?_) (v := ?_) ?_ (by kernel_rfl) (by decide +kernel) (by decide +kernel) (fun _ _ _ h => h) ?_ (by assumption) ?_
          rotate_left 2
          focus (simp only [List.getElem?_toArray, List.getElem?_cons_succ, List.getElem?_cons_zero] <;> rfl)
          · refine Or.inl ⟨by rfl, ?_⟩
            intro w hSw
            (try dsimp only at hSw)
            go_simp <;> with_reducible rfl
          (try simp only [Act.put, List.setIfInBounds_toArray, List.set_cons_zero, List.set_cons_succ])
          refine wpAnyH_ready (rs := [12]) (by decide +kernel) (by simp) ?_
          refine AllReadyH.cons (o := ?_) ?_ (fun K hK => ?_) AllReadyH.nil
          rotate_left 1
          focus (simp only [List.getElem?_toArray, List.getElem?_cons_succ, List.getElem?_cons_zero] <;> rfl)
          rw [if_pos (by rfl)]
          refine wp_storePw (.tmp 13) (.tmp 8) W.heap.size 0 _ (genC zc r.cur) tyGen rfl (genC_one _ _) HR_65.out (show 0 + 2 ≤ 8 from by decide) rfl rfl rfl ?_
          (try simp only [Act.put])
          obtain ⟨wz66, hwz⟩ : ∃ x, x = wz65.setCells W.heap.size 0 ((genC zc r.cur)).toList := ⟨_, rfl⟩
          have BB66 := Lib.hid (show Below W.heap.size W wz66 from by rw [hwz]; exact Below.setCellsG LER.out _ _ _ BB65.out)
          have HR_66 := Lib.hid (show Bx wz66 W.heap.size 26 (ringC ⟨zc, zo, x.pend⟩ r) from by rw [hwz]; exact Bx.putP _ _ HR_65.out)
          have hq := Bx.putOther HN_65.out NENR.out 0 ((genC zc r.cur)).toList
          rw [← hwz] at hq
          have HN_66 := Lib.hid hq
          clear hq
          have hq := KO_65.out.putX HR_65.out (no8_ring _ _) 0 ((genC zc r.cur)).toList
          rw [← hwz] at hq
          have KO_66 := Lib.hid hq
          clear hq
          have hq := KC_65.out.putX HR_65.out (no8_ring _ _) 0 ((genC zc r.cur)).toList
          rw [← hwz] at hq
          have KC_66 := Lib.hid hq
          clear hq
          have hq := KP_65.out.putX HR_65.out (no8_ring _ _) 0 ((genC zc r.cur)).toList
          rw [← hwz] at hq
          have KP_66 := Lib.hid hq
          clear hq
          have hq := ZO_65.out.putX HR_65.out (no8_ring _ _) 0 ((genC zc r.cur)).toList
          rw [← hwz] at hq
          have ZO_66 := Lib.hid hq
          clear hq
          have hq := ZC_65.out.putX HR_65.out (no8_ring _ _) 0 ((genC zc r.cur)).toList
          rw [← hwz] at hq
          have ZC_66 := Lib.hid hq
          clear hq
          have hq := ZP_65.out.putX HR_65.out (no8_ring _ _) 0 ((genC zc r.cur)).toList
          rw [← hwz] at hq
          have ZP_66 := Lib.hid hq
          clear hq
          rw [← hwz]
          clear hwz
          refine hK.out _ _ (KEEP.out _ BB66.out) (fun hHeld => ?_)
          clear hK K
          (try simp only [Act.put, List.setIfInBounds_toArray, List.set_cons_zero, List.set_cons_succ])
          refine wpAnyH_take (i := 13) (oi := ?_) (v := ?_) ?_ (by kernel_rfl) (by decide +kernel) (by decide +kernel) (fun _ _ _ h => h) ?_ (by assumption) ?_
          rotate_left 2
          focus (simp only [List.getElem?_toArray, List.getElem?_cons_succ, List.getElem?_cons_zero] <;> rfl)
          · refine Or.inl ⟨by rfl, ?_⟩
            intro w hSw
            (try dsimp only at hSw)
            go_simp <;> with_reducible rfl
          (try simp only [Act.put, List.setIfInBounds_toArray, List.set_cons_zero, List.set_cons_succ])
          refine wpAnyH_ready (rs := [14]) (by decide +kernel) (by simp) ?_
          refine AllReadyH.cons (o := ?_) ?_ (fun K hK => ?_) AllReadyH.nil
          rotate_left 1
          focus (simp only [List.getElem?_toArray, List.getElem?_cons_succ, List.getElem?_cons_zero] <;> rfl)
          rw [if_pos (by rfl)]
          refine wp_storePw (.tmp 14) (.tmp 11) W.heap.size 4 _ (genC zp r.pend) tyGen rfl (genC_one _ _) HR_66.out (show 4 + 2 ≤ 8 from by decide) rfl rfl rfl ?_
          (try simp only [Act.put])
          obtain ⟨wz67, hwz⟩ : ∃ x, x = wz66.setCells W.heap.size 4 ((genC zp r.pend)).toList := ⟨_, rfl⟩
          have BB67 := Lib.hid (show Below W.heap.size W wz67 from by rw [hwz]; exact Below.setCellsG LER.out _ _ _ BB66.out)
          have HR_67 := Lib.hid (show Bx wz67 W.heap.size 26 (ringC ⟨zc, zo, zp⟩ r) from by rw [hwz]; exact Bx.putP _ _ HR_66.out)
          have hq := Bx.putOther HN_66.out NENR.out 4 ((genC zp r.pend)).toList
          rw [← hwz] at hq
          have HN_67 := Lib.hid hq
          clear hq
          have hq := KO_66.out.putX HR_66.out (no8_ring _ _) 4 ((genC zp r.pend)).toList
          rw [← hwz] at hq
          have KO_67 := Lib.hid hq
          clear hq
          have hq := KC_66.out.putX HR_66.out (no8_ring _ _) 4 ((genC zp r.pend)).toList
          rw [← hwz] at hq
          have KC_67 := Lib.hid hq
          clear hq
          have hq := KP_66.out.putX HR_66.out (no8_ring _ _) 4 ((genC zp r.pend)).toList
          rw [← hwz] at hq
          have KP_67 := Lib.hid hq
          clear hq
          have hq := ZO_66.out.putX HR_66.out (no8_ring _ _) 4 ((genC zp r.pend)).toList
          rw [← hwz] at hq
          have ZO_67 := Lib.hid hq
          clear hq
          have hq := ZC_66.out.putX HR_66.out (no8_ring _ _) 4 ((genC zp r.pend)).toList
          rw [← hwz] at hq
          have ZC_67 := Lib.hid hq
          clear hq
          have hq := ZP_66.out.putX HR_66.out (no8_ring _ _) 4 ((genC zp r.pend)).toList
          rw [← hwz] at hq
          have ZP_67 := Lib.hid hq
          clear hq
          rw [← hwz]
          clear hwz
          refine hK.out _ _ (KEEP.out _ BB67.out) (fun hHeld => ?_)
          clear hK K
          (try simp only [Act.put, List.setIfInBounds_toArray, List.set_cons_zero, List.set_cons_succ])
          refine wpAnyH_done (by decide +kernel) ?_ _
          refine NoPanic.normal ?_
          clear KEEP
          obtain ⟨CC, hCC⟩ := isR ⟨zc, zo, zp⟩ r
          rw [← hCC.eq] at HR_67
          have hbl := hCC.bl
          have hsz := hCC.size
          rw [hsz] at hbl
          have HC := Lib.hid hCC
          clear hCC
          go_wp2_with (first | (refine loadX (.tmp 1) W.heap.size CC tyRing HC.out.size HR_67.out rfl rfl rfl ?_) | (refine storeX (.tmp 2) (.tmp 16) (W.heap.size + 1) CC _ tyWork HC.out.size HC.out.one HN_67.out rfl rfl rfl rfl rfl ?_))
          (try dsimp only)
          refine bodyPost_ret (retX1 rfl _ _ (W.heap.size + 1) CC tyWork HC.out.size rfl (Bx.setRow HN_67.out _)) rfl ?_
          have hb := Below.setRowG BB67.out (Nat.le_succ _) CC
          rw [HC.out.eq] at hb ⊢
          exact ⟨⟨_, rfl, RingR.setRow (x := ⟨zc, zo, zp⟩) ⟨ZC_67.out, ZO_67.out, ZP_67.out⟩ HN_67.out (no8_ring _ _)⟩, hb⟩
        refine AllReadyH.cons (o := ?_) ?_ (fun K hK => ?_) AllReadyH.nil
        rotate_left 1
        focus (simp only [List.getElem?_toArray, List.getElem?_cons_succ, List.getElem?_cons_zero] <;> rfl)
        rw [if_pos (by rfl)]
        refine wp_loadPw (.tmp 9) W.heap.size 4 _ (genC x.pend r.pend) tyGen rfl (part_pend _ _) HR_61.out rfl rfl ?_
        (try simp only [Act.put, List.setIfInBounds_toArray, List.set_cons_zero, List.set_cons_succ])
        refine hK.out _ _ (KEEP.out _ BB61.out) (fun hHeld => ?_)
        clear hK K
        (try simp only [Act.put, List.setIfInBounds_toArray, List.set_cons_zero, List.set_cons_succ])
        refine wpAnyH_take (i := 9) (oi := ?_) (v := ?_) ?_ (by kernel_rfl) (by decide +kernel) (by decide +kernel) (fun _ _ _ h => h) ?_ (by assumption) ?_
        rotate_left 2
        focus (simp only [List.getElem?_toArray, List.getElem?_cons_succ, List.getElem?_cons_zero] <;> rfl)
        · refine Or.inl ⟨by rfl, ?_⟩
          intro w hSw
          (try dsimp only at hSw)
          go_simp <;> with_reducible rfl
        (try simp only [Act.put, List.setIfInBounds_toArray, List.set_cons_zero, List.set_cons_succ])
        refine wpAnyH_ready (rs := [5]) (by decide +kernel) (by simp) ?_
        refine AllReadyH.cons (o := ?_) ?_ (fun K hK => ?_) AllReadyH.nil
        rotate_left 1
        focus (simp only [List.getElem?_toArray, List.getElem?_cons_succ, List.getElem?_cons_zero] <;> rfl)
        (try rw [if_pos (by rfl)])
        go_simp
        go_at_call 33
        refine (own_any x.cur r.cur _ HF.out.1 KC_61.out).mono ?_
        rintro e wz69 ⟨⟨zc, rfl, hk⟩, hb⟩
        have BB69 := Lib.hid (belG BB61.out hb BB61.out.size)
        have KO_69 := Lib.hid (KO_61.out.go hb)
        have KC_69 := Lib.hid (KC_61.out.go hb)
        have KP_69 := Lib.hid (KP_61.out.go hb)
        have ZO_69 := Lib.hid (ZO_61.out.go hb)
        have HR_69 := Lib.hid (Bx.go HR_61.out hb)
        have HN_69 := Lib.hid (Bx.go HN_61.out hb)
        have ZC_69 := Lib.hid hk
        clear hk
        clear hb
        refine hK.out _ _ (KEEP.out _ BB69.out) (fun hHeld => ?_)
        clear hK K
        (try simp only [Act.put, List.setIfInBounds_toArray, List.set_cons_zero, List.set_cons_succ])
        refine wpAnyH_ready (rs := [8]) (by decide +kernel) (by simp) ?_
        refine AllReadyH.cons (o := ?_) ?_ (fun K hK => ?_) AllReadyH.nil
        rotate_left 1
        focus (simp only [List.getElem?_toArray, List.getElem?_cons_succ, List.getElem?_cons_zero] <;> rfl)
        (try rw [if_pos (by rfl)])
        go_simp
        go_at_call 33
        refine (own_any x.pend r.pend _ HF.out.2.2 KP_69.out).mono ?_
        rintro e wz70 ⟨⟨zp, rfl, hk⟩, hb⟩
        have BB70 := Lib.hid (belG BB69.out hb BB69.out.size)
        have KO_70 := Lib.hid (KO_69.out.go hb)
        have KC_70 := Lib.hid (KC_69.out.go hb)
        have KP_70 := Lib.hid (KP_69.out.go hb)
        have ZO_70 := Lib.hid (ZO_69.out.go hb)
        have ZC_70 := Lib.hid (ZC_69.out.go hb)
        have HR_70 := Lib.hid (Bx.go HR_69.out hb)
        have HN_70 := Lib.hid (Bx.go HN_69.out hb)
        have ZP_70 := Lib.hid hk
        clear hk
        clear hb
        refine hK.out _ _ (KEEP.out _ BB70.out) (fun hHeld => ?_)
        clear hK K
        (try simp only [Act.put, List.setIfInBounds_toArray, List.set_cons_zero, List.set_cons_succ])
        refine wpAnyH_ready (rs := [10]) (by decide +kernel) (by simp) ?_
        refine AllReadyH.cons (o := ?_) ?_ (fun K hK => ?_) AllReadyH.nil
        rotate_left 1
        focus (simp only [List.getElem?_toArray, List.getElem?_cons_succ, List.getElem?_cons_zero] <;> rfl)
        rw [if_pos (by rfl)]
        refine wp_storePw (.tmp 12) (.tmp 5) W.heap.size 2 _ (genC zo r.old) tyGen rfl (genC_one _ _) HR_70.out (show 2 + 2 ≤ 8 from by decide) rfl rfl rfl ?_
        (try simp only [Act.put])
        obtain ⟨wz71, hwz⟩ : ∃ x, x = wz70.setCells W.heap.size 2 ((genC zo r.old)).toList := ⟨_, rfl⟩
        have BB71 := Lib.hid (show Below W.heap.size W wz71 from by rw [hwz]; exact Below.setCellsG LER.out _ _ _ BB70.out)
        have HR_71 := Lib.hid (show Bx wz71 W.heap.size 26 (ringC ⟨x.cur, zo, x.pend⟩ r) from by rw [hwz]; exact Bx.putP _ _ HR_70.out)
        have hq := Bx.putOther HN_70.out NENR.out 2 ((genC zo r.old)).toList
        rw [← hwz] at hq
        have HN_71 := Lib.hid hq
        clear hq
        have hq := KO_70.out.putX HR_70.out (no8_ring _ _) 2 ((genC zo r.old)).toList
        rw [← hwz] at hq
        have KO_71 := Lib.hid hq
        clear hq
        have hq := KC_70.out.putX HR_70.out (no8_ring _ _) 2 ((genC zo r.old)).toList
        rw [← hwz] at hq
        have KC_71 := Lib.hid hq
        clear hq
        have hq := KP_70.out.putX HR_70.out (no8_ring _ _) 2 ((genC zo r.old)).toList
        rw [← hwz] at hq
        have KP_71 := Lib.hid hq
        clear hq
        have hq := ZO_70.out.putX HR_70.out (no8_ring _ _) 2 ((genC zo r.old)).toList
        rw [← hwz] at hq
        have ZO_71 := Lib.hid hq
        clear hq
        have hq := ZC_70.out.putX HR_70.out (no8_ring _ _) 2 ((genC zo r.old)).toList
        rw [← hwz] at hq
        have ZC_71 := Lib.hid hq
        clear hq
        have hq := ZP_70.out.putX HR_70.out (no8_ring _ _) 2 ((genC zo r.old)).toList
        rw [← hwz] at hq
        have ZP_71 := Lib.hid hq
        clear hq
        rw [← hwz]
        clear hwz
        refine hK.out _ _ (KEEP.out _ BB71.out) (fun hHeld => ?_)
        clear hK K
        (try simp only [Act.put, List.setIfInBounds_toArray, List.set_cons_zero, List.set_cons_succ])
        refine wpAnyH_take (i := 11) (oi := ?_) (v := ?_) ?_ (by kernel_rfl) (by decide +kernel) (by decide +kernel) (fun _ _ _ h => h) ?_ (by assumption) ?_
        rotate_left 2
        focus (simp only [List.getElem?_toArray, List.getElem?_cons_succ, List.getElem?_cons_zero] <;> rfl)
        · refine Or.inl ⟨by rfl, ?_⟩
          intro w hSw
          (try dsimp only at hSw)
          go_simp <;> with_reducible rfl
        (try simp only [Act.put, List.setIfInBounds_toArray, List.set_cons_zero, List.set_cons_succ])
        refine wpAnyH_ready (rs := [12]) (by decide +kernel) (by simp) ?_
        refine AllReadyH.cons (o := ?_) ?_ (fun K hK => ?_) AllReadyH.nil
        rotate_left 1
        focus (simp only [List.getElem?_toArray, List.getElem?_cons_succ, List.getElem?_cons_zero] <;> rfl)
        rw [if_pos (by rfl)]
        refine wp_storePw (.tmp 13) (.tmp 8) W.heap.size 0 _ (genC zc r.cur) tyGen rfl (genC_one _ _) HR_71.out (show 0 + 2 ≤ 8 from by decide) rfl rfl rfl ?_
        (try simp only [Act.put])
        obtain ⟨wz72, hwz⟩ : ∃ x, x = wz71.setCells W.heap.size 0 ((genC zc r.cur)).toList := ⟨_, rfl⟩
        have BB72 := Lib.hid (show Below W.heap.size W wz72 from by rw [hwz]; exact Below.setCellsG LER.out _ _ _ BB71.out)
        have HR_72 := Lib.hid (show Bx wz72 W.heap.size 26 (ringC ⟨zc, zo, x.pend⟩ r) from by rw [hwz]; exact Bx.putP _ _ HR_71.out)
        have hq := Bx.putOther HN_71.out NENR.out 0 ((genC zc r.cur)).toList
        rw [← hwz] at hq
        have HN_72 := Lib.hid hq
        clear hq
        have hq := KO_71.out.putX HR_71.out (no8_ring _ _) 0 ((genC zc r.cur)).toList
        rw [← hwz] at hq
        have KO_72 := Lib.hid hq
        clear hq
        have hq := KC_71.out.putX HR_71.out (no8_ring _ _) 0 ((genC zc r.cur)).toList
        rw [← hwz] at hq
        have KC_72 := Lib.hid hq
        clear hq
        have hq := KP_71.out.putX HR_71.out (no8_ring _ _) 0 ((genC zc r.cur)).toList
        rw [← hwz] at hq
        have KP_72 := Lib.hid hq
        clear hq
        have hq := ZO_71.out.putX HR_71.out (no8_ring _ _) 0 ((genC zc r.cur)).toList
        rw [← hwz] at hq
        have ZO_72 := Lib.hid hq
        clear hq
        have hq := ZC_71.out.putX HR_71.out (no8_ring _ _) 0 ((genC zc r.cur)).toList
        rw [← hwz] at hq
        have ZC_72 := Lib.hid hq
        clear hq
        have hq := ZP_71.out.putX HR_71.out (no8_ring _ _) 0 ((genC zc r.cur)).toList
        rw [← hwz] at hq
        have ZP_72 := Lib.hid hq
        clear hq
        rw [← hwz]
        clear hwz
        refine hK.out _ _ (KEEP.out _ BB72.out) (fun hHeld => ?_)
        clear hK K
        (try simp only [Act.put, List.setIfInBounds_toArray, List.set_cons_zero, List.set_cons_succ])
        refine wpAnyH_take (i := 13) (oi := ?_) (v := ?_) ?_ (by kernel_rfl) (by decide +kernel) (by decide +kernel) (fun _ _ _ h => h) ?_ (by assumption) ?_
        rotate_left 2
        focus (simp only [List.getElem?_toArray, List.getElem?_cons_succ, List.getElem?_cons_zero] <;> rfl)
        · refine Or.inl ⟨by rfl, ?_⟩
          intro w hSw
          (try dsimp only at hSw)
          go_simp <;> with_reducible rfl
        (try simp only [Act.put, List.setIfInBounds_toArray, List.set_cons_zero, List.set_cons_succ])
        refine wpAnyH_ready (rs := [14]) (by decide +kernel) (by simp) ?_
        refine AllReadyH.cons (o := ?_) ?_ (fun K hK => ?_) AllReadyH.nil
        rotate_left 1
        focus (simp only [List.getElem?_toArray, List.getElem?_cons_succ, List.getElem?_cons_zero] <;> rfl)
        rw [if_pos (by rfl)]
        refine wp_storePw (.tmp 14) (.tmp 11) W.heap.size 4 _ (genC zp r.pend) tyGen rfl (genC_one _ _) HR_72.out (show 4 + 2 ≤ 8 from by decide) rfl rfl rfl ?_
        (try simp only [Act.put])
        obtain ⟨wz73, hwz⟩ : ∃ x, x = wz72.setCells W.heap.size 4 ((genC zp r.pend)).toList := ⟨_, rfl⟩
        have BB73 := Lib.hid (show Below W.heap.size W wz73 from by rw [hwz]; exact Below.setCellsG LER.out _ _ _ BB72.out)
        have HR_73 := Lib.hid (show Bx wz73 W.heap.size 26 (ringC ⟨zc, zo, zp⟩ r) from by rw [hwz]; exact Bx.putP _ _ HR_72.out)
        have hq := Bx.putOther HN_72.out NENR.out 4 ((genC zp r.pend)).toList
        rw [← hwz] at hq
        have HN_73 := Lib.hid hq
        clear hq
        have hq := KO_72.out.putX HR_72.out (no8_ring _ _) 4 ((genC zp r.pend)).toList
        rw [← hwz] at hq
        have KO_73 := Lib.hid hq
        clear hq
        have hq := KC_72.out.putX HR_72.out (no8_ring _ _) 4 ((genC zp r.pend)).toList
        rw [← hwz] at hq
        have KC_73 := Lib.hid hq
        clear hq
        have hq := KP_72.out.putX HR_72.out (no8_ring _ _) 4 ((genC zp r.pend)).toList
        rw [← hwz] at hq
        have KP_73 := Lib.hid hq
        clear hq
        have hq := ZO_72.out.putX HR_72.out (no8_ring _ _) 4 ((genC zp r.pend)).toList
        rw [← hwz] at hq
        have ZO_73 := Lib.hid hq
        clear hq
        have hq := ZC_72.out.putX HR_72.out (no8_ring _ _) 4 ((genC zp r.pend)).toList
        rw [← hwz] at hq
        have ZC_73 := Lib.hid hq
        clear hq
        have hq := ZP_72.out.putX HR_72.out (no8_ring _ _) 4 ((genC zp r.pend)).toList
        rw [← hwz] at hq
        have ZP_73 := Lib.hid hq
        clear hq
        rw [← hwz]
        clear hwz
        refine hK.out _ _ (KEEP.out _ BB73.out) (fun hHeld => ?_)
        clear hK K
        (try simp only [Act.put, List.setIfInBounds_toArray, List.set_cons_zero, List.set_cons_succ])
        refine wpAnyH_done (by decide +kernel) ?_ _
        refine NoPanic.normal ?_
        clear KEEP
        obtain ⟨CC, hCC⟩ := isR ⟨zc, zo, zp⟩ r
        rw [← hCC.eq] at HR_73
        have hbl := hCC.bl
        have hsz := hCC.size
        rw [hsz] at hbl
        have HC := Lib.hid hCC
        clear hCC
        go_wp2_with (first | (refine loadX (.tmp 1) W.heap.size CC tyRing HC.out.size HR_73.out rfl rfl rfl ?_) | (refine storeX (.tmp 2) (.tmp 16) (W.heap.size + 1) CC _ tyWork HC.out.size HC.out.one HN_73.out rfl rfl rfl rfl rfl ?_))
        (try dsimp only)
        refine bodyPost_ret (retX1 rfl _ _ (W.heap.size + 1) CC tyWork HC.out.size rfl (Bx.setRow HN_73.out _)) rfl ?_
        have hb := Below.setRowG BB73.out (Nat.le_succ _) CC
        rw [HC.out.eq] at hb ⊢
        exact ⟨⟨_, rfl, RingR.setRow (x := ⟨zc, zo, zp⟩) ⟨ZC_73.out, ZO_73.out, ZP_73.out⟩ HN_73.out (no8_ring _ _)⟩, hb⟩
      refine AllReadyH.cons (o := ?_) ?_ (fun K hK => ?_) AllReadyH.nil
      rotate_left 1
      focus (simp only [List.getElem?_toArray, List.getElem?_cons_succ, List.getElem?_cons_zero] <;> rfl)
      rw [if_pos (by rfl)]
      refine wp_loadPw (.tmp 9) W.heap.size 4 _ (genC x.pend r.pend) tyGen rfl (part_pend _ _) HR_0.out rfl rfl ?_
      (try simp only [Act.put, List.setIfInBounds_toArray, List.set_cons_zero, List.set_cons_succ])
      refine hK.out _ _ (KEEP.out _ BB0.out) (fun hHeld => ?_)
      clear hK K
      (try simp only [Act.put, List.setIfInBounds_toArray, List.set_cons_zero, List.set_cons_succ])
      refine wpAnyH_ready (rs := [2]) (by decide +kernel) (by simp) ?_
      refine AllReadyH.cons (o := ?_) ?_ (fun K hK => ?_) AllReadyH.nil
      rotate_left 1
      focus (simp only [List.getElem?_toArray, List.getElem?_cons_succ, List.getElem?_cons_zero] <;> rfl)
      (try rw [if_pos (by rfl)])
      go_simp
      go_at_call 33
      refine (own_any x.old r.old _ HF.out.2.1 KO_0.out).mono ?_
      rintro e wz75 ⟨⟨zo, rfl, hk⟩, hb⟩
      have BB75 := Lib.hid (belG BB0.out hb BB0.out.size)
      have KO_75 := Lib.hid (KO_0.out.go hb)
      have KC_75 := Lib.hid (KC_0.out.go hb)
      have KP_75 := Lib.hid (KP_0.out.go hb)
      have HR_75 := Lib.hid (Bx.go HR_0.out hb)
      have HN_75 := Lib.hid (Bx.go HN_0.out hb)
      have ZO_75 := Lib.hid hk
      clear hk
      clear hb
      refine hK.out _ _ (KEEP.out _ BB75.out) (fun hHeld => ?_)
      clear hK K
      (try simp only [Act.put, List.setIfInBounds_toArray, List.set_cons_zero, List.set_cons_succ])
      refine wpAnyH_take (i := 9) (oi := ?_) (v := ?_) ?_ (by kernel_rfl) (by decide +kernel) (by decide +kernel) (fun _ _ _ h => h) ?_ (by assumption) ?_
      rotate_left 2
      focus (simp only [List.getElem?_toArray, List.getElem?_cons_succ, List.getElem?_cons_zero] <;> rfl)
      · refine Or.inl ⟨by rfl, ?_⟩
        intro w hSw
        (try dsimp only at hSw)
        go_simp <;> with_reducible rfl
      (try simp only [Act.put, List.setIfInBounds_toArray, List.set_cons_zero, List.set_cons_succ])
      refine wpAnyH_ready (rs := [5]) (by decide +kernel) (by simp) ?_
      refine AllReadyH.cons (o := ?_) ?_ (fun K hK => ?_) AllReadyH.nil
      rotate_left 1
      focus (simp only [List.getElem?_toArray, List.getElem?_cons_succ, List.getElem?_cons_zero] <;> rfl)
      (try rw [if_pos (by rfl)])
      go_simp
      go_at_call 33
      refine (own_any x.cur r.cur _ HF.out.1 KC_75.out).mono ?_
      rintro e wz76 ⟨⟨zc, rfl, hk⟩, hb⟩
      have BB76 := Lib.hid (belG BB75.out hb BB75.out.size)
      have KO_76 := Lib.hid (KO_75.out.go hb)
      have KC_76 := Lib.hid (KC_75.out.go hb)
      have KP_76 := Lib.hid (KP_75.out.go hb)
      have ZO_76 := Lib.hid (ZO_75.out.go hb)
      have HR_76 := Lib.hid (Bx.go HR_75.out hb)
      have HN_76 := Lib.hid (Bx.go HN_75.out hb)
      have ZC_76 := Lib.hid hk
      clear hk
      clear hb
      refine hK.out _ _ (KEEP.out _ BB76.out) (fun hHeld => ?_)
      clear hK K
      (try simp only [Act.put, List.setIfInBounds_toArray, List.set_cons_zero, List.set_cons_succ])
      refine wpAnyH_ready (rs := [8]) (by decide +kernel) (by simp) ?_
      refine AllReadyH.cons (o := ?_) ?_ (fun K hK => ?_) AllReadyH.nil
      rotate_left 1
      focus (simp only [List.getElem?_toArray, List.getElem?_cons_succ, List.getElem?_cons_zero] <;> rfl)
      (try rw [if_pos (by rfl)])
      go_simp
      go_at_call 33
      refine (own_any x.pend r.pend _ HF.out.2.2 KP_76.out).mono ?_
      rintro e wz77 ⟨⟨zp, rfl, hk⟩, hb⟩
      have BB77 := Lib.hid (belG BB76.out hb BB76.out.size)
      have KO_77 := Lib.hid (KO_76.out.go hb)
      have KC_77 := Lib.hid (KC_76.out.go hb)
      have KP_77 := Lib.hid (KP_76.out.go hb)
      have ZO_77 := Lib.hid (ZO_76.out.go hb)
      have ZC_77 := Lib.hid (ZC_76.out.go hb)
      have HR_77 := Lib.hid (Bx.go HR_76.out hb)
      have HN_77 := Lib.hid (Bx.go HN_76.out hb)
      have ZP_77 := Lib.hid hk
      clear hk
      clear hb
      refine hK.out _ _ (KEEP.out _ BB77.out) (fun hHeld => ?_)
      clear hK K
      (try simp only [Act.put, List.setIfInBounds_toArray, List.set_cons_zero, List.set_cons_succ])
      refine wpAnyH_ready (rs := [10]) (by decide +kernel) (by simp) ?_
      refine AllReadyH.cons (o := ?_) ?_ (fun K hK => ?_) AllReadyH.nil
      rotate_left 1
      focus (simp only [List.getElem?_toArray, List.getElem?_cons_succ, List.getElem?_cons_zero] <;> rfl)
      rw [if_pos (by rfl)]
      refine wp_storePw (.tmp 12) (.tmp 5) W.heap.size 2 _ (genC zo r.old) tyGen rfl (genC_one _ _) HR_77.out (show 2 + 2 ≤ 8 from by decide) rfl rfl rfl ?_
      (try simp only [Act.put])
      obtain ⟨wz78, hwz⟩ : ∃ x, x = wz77.setCells W.heap.size 2 ((genC zo r.old)).toList := ⟨_, rfl⟩
      have BB78 := Lib.hid (show Below W.heap.size W wz78 from by rw [hwz]; exact Below.setCellsG LER.out _ _ _ BB77.out)
      have HR_78 := Lib.hid (show Bx wz78 W.heap.size 26 (ringC ⟨x.cur, zo, x.pend⟩ r) from by rw [hwz]; exact Bx.putP _ _ HR_77.out)
      have hq := Bx.putOther HN_77.out NENR.out 2 ((genC zo r.old)).toList
      rw [← hwz] at hq
      have HN_78 := Lib.hid hq
      clear hq
      have hq := KO_77.out.putX HR_77.out (no8_ring _ _) 2 ((genC zo r.old)).toList
      rw [← hwz] at hq
      have KO_78 := Lib.hid hq
      clear hq
      have hq := KC_77.out.putX HR_77.out (no8_ring _ _) 2 ((genC zo r.old)).toList
      rw [← hwz] at hq
      have KC_78 := Lib.hid hq
      clear hq
      have hq := KP_77.out.putX HR_77.out (no8_ring _ _) 2 ((genC zo r.old)).toList
      rw [← hwz] at hq
      have KP_78 := Lib.hid hq
      clear hq
      have hq := ZO_77.out.putX HR_77.out (no8_ring _ _) 2 ((genC zo r.old)).toList
      rw [← hwz] at hq
      have ZO_78 := Lib.hid hq
      clear hq
      have hq := ZC_77.out.putX HR_77.out (no8_ring _ _) 2 ((genC zo r.old)).toList
      rw [← hwz] at hq
      have ZC_78 := Lib.hid hq
      clear hq
      have hq := ZP_77.out.putX HR_77.out (no8_ring _ _) 2 ((genC zo r.old)).toList
      rw [← hwz] at hq
      have ZP_78 := Lib.hid hq
      clear hq
      rw [← hwz]
      clear hwz
      refine hK.out _ _ (KEEP.out _ BB78.out) (fun hHeld => ?_)
      clear hK K
      (try simp only [Act.put, List.setIfInBounds_toArray, List.set_cons_zero, List.set_cons_succ])
      refine wpAnyH_take (i := 11) (oi := ?_) (v := ?_) ?_ (by kernel_rfl) (by decide +kernel) (by decide +kernel) (fun _ _ _ h => h) ?_ (by assumption) ?_
      rotate_left 2
      focus (simp only [List.getElem?_toArray, List.getElem?_cons_succ, List.getElem?_cons_zero] <;> rfl)
      · refine Or.inl ⟨by rfl, ?_⟩
        intro w hSw
        (try dsimp only at hSw)
        go_simp <;> with_reducible rfl
      (try simp only [Act.put, List.setIfInBounds_toArray, List.set_cons_zero, List.set_cons_succ])
      refine wpAnyH_ready (rs := [12]) (by decide +kernel) (by simp) ?_
      refine AllReadyH.cons (o := ?_) ?_ (fun K hK => ?_) AllReadyH.nil
      rotate_left 1
      focus (simp only [List.getElem?_toArray, List.getElem?_cons_succ, List.getElem?_cons_zero] <;> rfl)
      rw [if_pos (by rfl)]
      refine wp_storePw (.tmp 13) (.tmp 8) W.heap.size 0 _ (genC zc r.cur) tyGen rfl (genC_one _ _) HR_78.out (show 0 + 2 ≤ 8 from by decide) rfl rfl rfl ?_
      (try simp only [Act.put])
      obtain ⟨wz79, hwz⟩ : ∃ x, x = wz78.setCells W.heap.size 0 ((genC zc r.cur)).toList := ⟨_, rfl⟩
      have BB79 := Lib.hid (show Below W.heap.size W wz79 from by rw [hwz]; exact Below.setCellsG LER.out _ _ _ BB78.out)
      have HR_79 := Lib.hid (show Bx wz79 W.heap.size 26 (ringC ⟨zc, zo, x.pend⟩ r) from by rw [hwz]; exact Bx.putP _ _ HR_78.out)
      have hq := Bx.putOther HN_78.out NENR.out 0 ((genC zc r.cur)).toList
      rw [← hwz] at hq
      have HN_79 := Lib.hid hq
      clear hq
      have hq := KO_78.out.putX HR_78.out (no8_ring _ _) 0 ((genC zc r.cur)).toList
      rw [← hwz] at hq
      have KO_79 := Lib.hid hq
      clear hq
      have hq := KC_78.out.putX HR_78.out (no8_ring _ _) 0 ((genC zc r.cur)).toList
      rw [← hwz] at hq
      have KC_79 := Lib.hid hq
      clear hq
      have hq := KP_78.out.putX HR_78.out (no8_ring _ _) 0 ((genC zc r.cur)).toList
      rw [← hwz] at hq
      have KP_79 := Lib.hid hq
      clear hq
      have hq := ZO_78.out.putX HR_78.out (no8_ring _ _) 0 ((genC zc r.cur)).toList
      rw [← hwz] at hq
      have ZO_79 := Lib.hid hq
      clear hq
      have hq := ZC_78.out.putX HR_78.out (no8_ring _ _) 0 ((genC zc r.cur)).toList
      rw [← hwz] at hq
      have ZC_79 := Lib.hid hq
      clear hq
      have hq := ZP_78.out.putX HR_78.out (no8_ring _ _) 0 ((genC zc r.cur)).toList
      rw [← hwz] at hq
      have ZP_79 := Lib.hid hq
      clear hq
      rw [← hwz]
      clear hwz
      refine hK.out _ _ (KEEP.out _ BB79.out) (fun hHeld => ?_)
      clear hK K
      (try simp only [Act.put, List.setIfInBounds_toArray, List.set_cons_zero, List.set_cons_succ])
      refine wpAnyH_take (i := 13) (oi := ?_) (v := ?_) ?_ (by kernel_rfl) (by decide +kernel) (by decide +kernel) (fun _ _ _ h => h) ?_ (by assumption) ?_
      rotate_left 2
      focus (simp only [List.getElem?_toArray, List.getElem?_cons_succ, List.getElem?_cons_zero] <;> rfl)
      · refine Or.inl ⟨by rfl, ?_⟩
        intro w hSw
        (try dsimp only at hSw)
        go_simp <;> with_reducible rfl
      (try simp only [Act.put, List.setIfInBounds_toArray, List.set_cons_zero, List.set_cons_succ])
      refine wpAnyH_ready (rs := [14]) (by decide +kernel) (by simp) ?_
      refine AllReadyH.cons (o := ?_) ?_ (fun K hK => ?_) AllReadyH.nil
      rotate_left 1
      focus (simp only [List.getElem?_toArray, List.getElem?_cons_succ, List.getElem?_cons_zero] <;> rfl)
      rw [if_pos (by rfl)]
      refine wp_storePw (.tmp 14) (.tmp 11) W.heap.size 4 _ (genC zp r.pend) tyGen rfl (genC_one _ _) HR_79.out (show 4 + 2 ≤ 8 from by decide) rfl rfl rfl ?_
      (try simp only [Act.put])
      obtain ⟨wz80, hwz⟩ : ∃ x, x = wz79.setCells W.heap.size 4 ((genC zp r.pend)).toList := ⟨_, rfl⟩
      have BB80 := Lib.hid (show Below W.heap.size W wz80 from by rw [hwz]; exact Below.setCellsG LER.out _ _ _ BB79.out)
      have HR_80 := Lib.hid (show Bx wz80 W.heap.size 26 (ringC ⟨zc, zo, zp⟩ r) from by rw [hwz]; exact Bx.putP _ _ HR_79.out)
      have hq := Bx.putOther HN_79.out NENR.out 4 ((genC zp r.pend)).toList
      rw [← hwz] at hq
      have HN_80 := Lib.hid hq
      clear hq
      have hq := KO_79.out.putX HR_79.out (no8_ring _ _) 4 ((genC zp r.pend)).toList
      rw [← hwz] at hq
      have KO_80 := Lib.hid hq
      clear hq
      have hq := KC_79.out.putX HR_79.out (no8_ring _ _) 4 ((genC zp r.pend)).toList
      rw [← hwz] at hq
      have KC_80 := Lib.hid hq
      clear hq
      have hq := KP_79.out.putX HR_79.out (no8_ring _ _) 4 ((genC zp r.pend)).toList
      rw [← hwz] at hq
      have KP_80 := Lib.hid hq
      clear hq
      have hq := ZO_79.out.putX HR_79.out (no8_ring _ _) 4 ((genC zp r.pend)).toList
      rw [← hwz] at hq
      have ZO_80 := Lib.hid hq
      clear hq
      have hq := ZC_79.out.putX HR_79.out (no8_ring _ _) 4 ((genC zp r.pend)).toList
      rw [← hwz] at hq
      have ZC_80 := Lib.hid hq
      clear hq
      have hq := ZP_79.out.putX HR_79.out (no8_ring _ _) 4 ((genC zp r.pend)).toList
      rw [← hwz] at hq
      have ZP_80 := Lib.hid hq
      clear hq
      rw [← hwz]
      clear hwz
      refine hK.out _ _ (KEEP.out _ BB80.out) (fun hHeld => ?_)
      clear hK K
      (try simp only [Act.put, List.setIfInBounds_toArray, List.set_cons_zero, List.set_cons_succ])
      refine wpAnyH_done (by decide +kernel) ?_ _
      refine NoPanic.normal ?_
      clear KEEP
      obtain ⟨CC, hCC⟩ := isR ⟨zc, zo, zp⟩ r
      rw [← hCC.eq] at HR_80
      have hbl := hCC.bl
      have hsz := hCC.size
      rw [hsz] at hbl
      have HC := Lib.hid hCC
      clear hCC
      go_wp2_with (first | (refine loadX (.tmp 1) W.heap.size CC tyRing HC.out.size HR_80.out rfl rfl rfl ?_) | (refine storeX (.tmp 2) (.tmp 16) (W.heap.size + 1) CC _ tyWork HC.out.size HC.out.one HN_80.out rfl rfl rfl rfl rfl ?_))
      (try dsimp only)
      refine bodyPost_ret (retX1 rfl _ _ (W.heap.size + 1) CC tyWork HC.out.size rfl (Bx.setRow HN_80.out _)) rfl ?_
      have hb := Below.setRowG BB80.out (Nat.le_succ _) CC
      rw [HC.out.eq] at hb ⊢
      exact ⟨⟨_, rfl, RingR.setRow (x := ⟨zc, zo, zp⟩) ⟨ZC_80.out, ZO_80.out, ZP_80.out⟩ HN_80.out (no8_ring _ _)⟩, hb⟩
    refine AllReadyH.cons (o := ?_) ?_ (fun K hK => ?_) AllReadyH.nil
    rotate_left 1
    focus (simp only [List.getElem?_toArray, List.getElem?_cons_succ, List.getElem?_cons_zero] <;> rfl)
    rw [if_pos (by rfl)]
    refine wp_loadPw (.tmp 9) W.heap.size 4 _ (genC x.pend r.pend) tyGen rfl (part_pend _ _) HR_0.out rfl rfl ?_
    (try simp only [Act.put, List.setIfInBounds_toArray, List.set_cons_zero, List.set_cons_succ])
    refine hK.out _ _ (KEEP.out _ BB0.out) (fun hHeld => ?_)
    clear hK K
    (try simp only [Act.put, List.setIfInBounds_toArray, List.set_cons_zero, List.set_cons_succ])
    refine wpAnyH_ready (rs := [1]) (by decide +kernel) (by simp) ?_
    refine AllReadyH.cons (o := ?_) ?_ (fun K hK => ?_) AllReadyH.nil
    rotate_left 1
    focus (simp only [List.getElem?_toArray, List.getElem?_cons_succ, List.getElem?_cons_zero] <;> rfl)
    rw [if_pos (by rfl)]
    refine wp_loadPw (.tmp 3) W.heap.size 2 _ (genC x.old r.old) tyGen rfl (part_old _ _) HR_0.out rfl rfl ?_
    (try simp only [Act.put, List.setIfInBounds_toArray, List.set_cons_zero, List.set_cons_succ])
    refine hK.out _ _ (KEEP.out _ BB0.out) (fun hHeld => ?_)
    clear hK K
    (try simp only [Act.put, List.setIfInBounds_toArray, List.set_cons_zero, List.set_cons_succ])
    refine wpAnyH_ready (rs := [2]) (by decide +kernel) (by simp) ?_
    refine AllReadyH.cons (o := ?_) ?_ (fun K hK => ?_) AllReadyH.nil
    rotate_left 1
    focus (simp only [List.getElem?_toArray, List.getElem?_cons_succ, List.getElem?_cons_zero] <;> rfl)
    (try rw [if_pos (by rfl)])
    go_simp
    go_at_call 33
    refine (own_any x.old r.old _ HF.out.2.1 KO_0.out).mono ?_
    rintro e wz83 ⟨⟨zo, rfl, hk⟩, hb⟩
    have BB83 := Lib.hid (belG BB0.out hb BB0.out.size)
    have KO_83 := Lib.hid (KO_0.out.go hb)
    have KC_83 := Lib.hid (KC_0.out.go hb)
    have KP_83 := Lib.hid (KP_0.out.go hb)
    have HR_83 := Lib.hid (Bx.go HR_0.out hb)
    have HN_83 := Lib.hid (Bx.go HN_0.out hb)
    have ZO_83 := Lib.hid hk
    clear hk
    clear hb
    refine hK.out _ _ (KEEP.out _ BB83.out) (fun hHeld => ?_)
    clear hK K
    (try simp only [Act.put, List.setIfInBounds_toArray, List.set_cons_zero, List.set_cons_succ])
    refine wpAnyH_take (i := 9) (oi := ?_) (v := ?_) ?_ (by kernel_rfl) (by decide +kernel) (by decide +kernel) (fun _ _ _ h => h) ?_ (by assumption) ?_
    rotate_left 2
    focus (simp only [List.getElem?_toArray, List.getElem?_cons_succ, List.getElem?_cons_zero] <;> rfl)
    · refine Or.inl ⟨by rfl, ?_⟩
      intro w hSw
      (try dsimp only at hSw)
      go_simp <;> with_reducible rfl
    (try simp only [Act.put, List.setIfInBounds_toArray, List.set_cons_zero, List.set_cons_succ])
    refine wpAnyH_ready (rs := [5]) (by decide +kernel) (by simp) ?_
    refine AllReadyH.cons (o := ?_) ?_ (fun K hK => ?_) AllReadyH.nil
    rotate_left 1
    focus (simp only [List.getElem?_toArray, List.getElem?_cons_succ, List.getElem?_cons_zero] <;> rfl)
    (try rw [if_pos (by rfl)])
    go_simp
    go_at_call 33
    refine (own_any x.cur r.cur _ HF.out.1 KC_83.out).mono ?_
    rintro e wz84 ⟨⟨zc, rfl, hk⟩, hb⟩
    have BB84 := Lib.hid (belG BB83.out hb BB83.out.size)
    have KO_84 := Lib.hid (KO_83.out.go hb)
    have KC_84 := Lib.hid (KC_83.out.go hb)
    have KP_84 := Lib.hid (KP_83.out.go hb)
    have ZO_84 := Lib.hid (ZO_83.out.go hb)
    have HR_84 := Lib.hid (Bx.go HR_83.out hb)
    have HN_84 := Lib.hid (Bx.go HN_83.out hb)
    have ZC_84 := Lib.hid hk
    clear hk
    clear hb
    refine hK.out _ _ (KEEP.out _ BB84.out) (fun hHeld => ?_)
    clear hK K
    (try simp only [Act.put, List.setIfInBounds_toArray, List.set_cons_zero, List.set_cons_succ])
    refine wpAnyH_ready (rs := [8]) (by decide +kernel) (by simp) ?_
    refine AllReadyH.cons (o := ?_) ?_ (fun K hK => ?_) AllReadyH.nil
    rotate_left 1
    focus (simp only [List.getElem?_toArray, List.getElem?_cons_succ, List.getElem?_cons_zero] <;> rfl)
    (try rw [if_pos (by rfl)])
    go_simp
    go_at_call 33
    refine (own_any x.pend r.pend _ HF.out.2.2 KP_84.out).mono ?_
    rintro e wz85 ⟨⟨zp, rfl, hk⟩, hb⟩
    have BB85 := Lib.hid (belG BB84.out hb BB84.out.size)
    have KO_85 := Lib.hid (KO_84.out.go hb)
    have KC_85 := Lib.hid (KC_84.out.go hb)
    have KP_85 := Lib.hid (KP_84.out.go hb)
    have ZO_85 := Lib.hid (ZO_84.out.go hb)
    have ZC_85 := Lib.hid (ZC_84.out.go hb)
    have HR_85 := Lib.hid (Bx.go HR_84.out hb)
    have HN_85 := Lib.hid (Bx.go HN_84.out hb)
    have ZP_85 := Lib.hid hk
    clear hk
    clear hb
    refine hK.out _ _ (KEEP.out _ BB85.out) (fun hHeld => ?_)
    clear hK K
    (try simp only [Act.put, List.setIfInBounds_toArray, List.set_cons_zero, List.set_cons_succ])
    refine wpAnyH_ready (rs := [10]) (by decide +kernel) (by simp) ?_
    refine AllReadyH.cons (o := ?_) ?_ (fun K hK => ?_) AllReadyH.nil
    rotate_left 1
    focus (simp only [List.getElem?_toArray, List.getElem?_cons_succ, List.getElem?_cons_zero] <;> rfl)
    rw [if_pos (by rfl)]
    refine wp_storePw (.tmp 12) (.tmp 5) W.heap.size 2 _ (genC zo r.old) tyGen rfl (genC_one _ _) HR_85.out (show 2 + 2 ≤ 8 from by decide) rfl rfl rfl ?_
    (try simp only [Act.put])
    obtain ⟨wz86, hwz⟩ : ∃ x, x = wz85.setCells W.heap.size 2 ((genC zo r.old)).toList := ⟨_, rfl⟩
    have BB86 := Lib.hid (show Below W.heap.size W wz86 from by rw [hwz]; exact Below.setCellsG LER.out _ _ _ BB85.out)
    have HR_86 := Lib.hid (show Bx wz86 W.heap.size 26 (ringC ⟨x.cur, zo, x.pend⟩ r) from by rw [hwz]; exact Bx.putP _ _ HR_85.out)
    have hq := Bx.putOther HN_85.out NENR.out 2 ((genC zo r.old)).toList
    rw [← hwz] at hq
    have HN_86 := Lib.hid hq
    clear hq
    have hq := KO_85.out.putX HR_85.out (no8_ring _ _) 2 ((genC zo r.old)).toList
    rw [← hwz] at hq
    have KO_86 := Lib.hid hq
    clear hq
    have hq := KC_85.out.putX HR_85.out (no8_ring _ _) 2 ((genC zo r.old)).toList
    rw [← hwz] at hq
    have KC_86 := Lib.hid hq
    clear hq
    have hq := KP_85.out.putX HR_85.out (no8_ring _ _) 2 ((genC zo r.old)).toList
    rw [← hwz] at hq
    have KP_86 := Lib.hid hq
    clear hq
    have hq := ZO_85.out.putX HR_85.out (no8_ring _ _) 2 ((genC zo r.old)).toList
    rw [← hwz] at hq
    have ZO_86 := Lib.hid hq
    clear hq
    have hq := ZC_85.out.putX HR_85.out (no8_ring _ _) 2 ((genC zo r.old)).toList
    rw [← hwz] at hq
    have ZC_86 := Lib.hid hq
    clear hq
    have hq := ZP_85.out.putX HR_85.out (no8_ring _ _) 2 ((genC zo r.old)).toList
    rw [← hwz] at hq
    have ZP_86 := Lib.hid hq
    clear hq
    rw [← hwz]
    clear hwz
    refine hK.out _ _ (KEEP.out _ BB86.out) (fun hHeld => ?_)
    clear hK K
    (try simp only [Act.put, List.setIfInBounds_toArray, List.set_cons_zero, List.set_cons_succ])
    refine wpAnyH_take (i := 11) (oi := ?_) (v := ?_) ?_ (by kernel_rfl) (by decide +kernel) (by decide +kernel) (fun _ _ _ h => h) ?_ (by assumption) ?_
    rotate_left 2
    focus (simp only [List.getElem?_toArray, List.getElem?_cons_succ, List.getElem?_cons_zero] <;> rfl)
    · refine Or.inl ⟨by rfl, ?_⟩
      intro w hSw
      (try dsimp only at hSw)
      go_simp <;> with_reducible rfl
    (try simp only [Act.put, List.setIfInBounds_toArray, List.set_cons_zero, List.set_cons_succ])
    refine wpAnyH_ready (rs := [12]) (by decide +kernel) (by simp) ?_
    refine AllReadyH.cons (o := ?_) ?_ (fun K hK => ?_) AllReadyH.nil
    rotate_left 1
    focus (simp only [List.getElem?_toArray, List.getElem?_cons_succ, List.getElem?_cons_zero] <;> rfl)
    rw [if_pos (by rfl)]
    refine wp_storePw (.tmp 13) (.tmp 8) W.heap.size 0 _ (genC zc r.cur) tyGen rfl (genC_one _ _) HR_86.out (show 0 + 2 ≤ 8 from by decide) rfl rfl rfl ?_
    (try simp only [Act.put])
    obtain ⟨wz87, hwz⟩ : ∃ x, x = wz86.setCells W.heap.size 0 ((genC zc r.cur)).toList := ⟨_, rfl⟩
    have BB87 := Lib.hid (show Below W.heap.size W wz87 from by rw [hwz]; exact Below.setCellsG LER.out _ _ _ BB86.out)
    have HR_87 := Lib.hid (show Bx wz87 W.heap.size 26 (ringC ⟨zc, zo, x.pend⟩ r) from by rw [hwz]; exact Bx.putP _ _ HR_86.out)
    have hq := Bx.putOther HN_86.out NENR.out 0 ((genC zc r.cur)).toList
    rw [← hwz] at hq
    have HN_87 := Lib.hid hq
    clear hq
    have hq := KO_86.out.putX HR_86.out (no8_ring _ _) 0 ((genC zc r.cur)).toList
    rw [← hwz] at hq
    have KO_87 := Lib.hid hq
    clear hq
    have hq := KC_86.out.putX HR_86.out (no8_ring _ _) 0 ((genC zc r.cur)).toList
    rw [← hwz] at hq
    have KC_87 := Lib.hid hq
    clear hq
    have hq := KP_86.out.putX HR_86.out (no8_ring _ _) 0 ((genC zc r.cur)).toList
    rw [← hwz] at hq
    have KP_87 := Lib.hid hq
    clear hq
    have hq := ZO_86.out.putX HR_86.out (no8_ring _ _) 0 ((genC zc r.cur)).toList
    rw [← hwz] at hq
    have ZO_87 := Lib.hid hq
    clear hq
    have hq := ZC_86.out.putX HR_86.out (no8_ring _ _) 0 ((genC zc r.cur)).toList
    rw [← hwz] at hq
    have ZC_87 := Lib.hid hq
    clear hq
    have hq := ZP_86.out.putX HR_86.out (no8_ring _ _) 0 ((genC zc r.cur)).toList
    rw [← hwz] at hq
    have ZP_87 := Lib.hid hq
    clear hq
    rw [← hwz]
    clear hwz
    refine hK.out _ _ (KEEP.out _ BB87.out) (fun hHeld => ?_)
    clear hK K
    (try simp only [Act.put, List.setIfInBounds_toArray, List.set_cons_zero, List.set_cons_succ])
    refine wpAnyH_take (i := 13) (oi := ?_) (v := ?_) ?_ (by kernel_rfl) (by decide +kernel) (by decide +kernel) (fun _ _ _ h => h) ?_ (by assumption) ?_
    rotate_left 2
    focus (simp only [List.getElem?_toArray, List.getElem?_cons_succ, List.getElem?_cons_zero] <;> rfl)
    · refine Or.inl ⟨by rfl, ?_⟩
      intro w hSw
      (try dsimp only at hSw)
      go_simp <;> with_reducible rfl
    (try simp only [Act.put, List.setIfInBounds_toArray, List.set_cons_zero, List.set_cons_succ])
    refine wpAnyH_ready (rs := [14]) (by decide +kernel) (by simp) ?_
    refine AllReadyH.cons (o := ?_) ?_ (fun K hK => ?_) AllReadyH.nil
    rotate_left 1
    focus (simp only [List.getElem?_toArray, List.getElem?_cons_succ, List.getElem?_cons_zero] <;> rfl)
    rw [if_pos (by rfl)]
    refine wp_storePw (.tmp 14) (.tmp 11) W.heap.size 4 _ (genC zp r.pend) tyGen rfl (genC_one _ _) HR_87.out (show 4 + 2 ≤ 8 from by decide) rfl rfl rfl ?_
    (try simp only [Act.put])
    obtain ⟨wz88, hwz⟩ : ∃ x, x = wz87.setCells W.heap.size 4 ((genC zp r.pend)).toList := ⟨_, rfl⟩
    have BB88 := Lib.hid (show Below W.heap.size W wz88 from by rw [hwz]; exact Below.setCellsG LER.out _ _ _ BB87.out)
    have HR_88 := Lib.hid (show Bx wz88 W.heap.size 26 (ringC ⟨zc, zo, zp⟩ r) from by rw [hwz]; exact Bx.putP _ _ HR_87.out)
    have hq := Bx.putOther HN_87.out NENR.out 4 ((genC zp r.pend)).toList
    rw [← hwz] at hq
    have HN_88 := Lib.hid hq
    clear hq
    have hq := KO_87.out.putX HR_87.out (no8_ring _ _) 4 ((genC zp r.pend)).toList
    rw [← hwz] at hq
    have KO_88 := Lib.hid hq
    clear hq
    have hq := KC_87.out.putX HR_87.out (no8_ring _ _) 4 ((genC zp r.pend)).toList
    rw [← hwz] at hq
    have KC_88 := Lib.hid hq
    clear hq
    have hq := KP_87.out.putX HR_87.out (no8_ring _ _) 4 ((genC zp r.pend)).toList
    rw [← hwz] at hq
    have KP_88 := Lib.hid hq
    clear hq
    have hq := ZO_87.out.putX HR_87.out (no8_ring _ _) 4 ((genC zp r.pend)).toList
    rw [← hwz] at hq
    have ZO_88 := Lib.hid hq
    clear hq
    have hq := ZC_87.out.putX HR_87.out (no8_ring _ _) 4 ((genC zp r.pend)).toList
    rw [← hwz] at hq
    have ZC_88 := Lib.hid hq
    clear hq
    have hq := ZP_87.out.putX HR_87.out (no8_ring _ _) 4 ((genC zp r.pend)).toList
    rw [← hwz] at hq
    have ZP_88 := Lib.hid hq
    clear hq
    rw [← hwz]
    clear hwz
    refine hK.out _ _ (KEEP.out _ BB88.out) (fun hHeld => ?_)
    clear hK K
    (try simp only [Act.put, List.setIfInBounds_toArray, List.set_cons_zero, List.set_cons_succ])
    refine wpAnyH_done (by decide +kernel) ?_ _
    refine NoPanic.normal ?_
    clear KEEP
    obtain ⟨CC, hCC⟩ := isR ⟨zc, zo, zp⟩ r
    rw [← hCC.eq] at HR_88
    have hbl := hCC.bl
    have hsz := hCC.size
    rw [hsz] at hbl
    have HC := Lib.hid hCC
    clear hCC
    go_wp2_with (first | (refine loadX (.tmp 1) W.heap.size CC tyRing HC.out.size HR_88.out rfl rfl rfl ?_) | (refine storeX (.tmp 2) (.tmp 16) (W.heap.size + 1) CC _ tyWork HC.out.size HC.out.one HN_88.out rfl rfl rfl rfl rfl ?_))
    (try dsimp only)
    refine bodyPost_ret (retX1 rfl _ _ (W.heap.size + 1) CC tyWork HC.out.size rfl (Bx.setRow HN_88.out _)) rfl ?_
    have hb := Below.setRowG BB88.out (Nat.le_succ _) CC
    rw [HC.out.eq] at hb ⊢
    exact ⟨⟨_, rfl, RingR.setRow (x := ⟨zc, zo, zp⟩) ⟨ZC_88.out, ZO_88.out, ZP_88.out⟩ HN_88.out (no8_ring _ _)⟩, hb⟩
  refine AllReadyH.cons (o := ?_) ?_ (fun K hK => ?_) AllReadyH.nil
  rotate_left 1
  focus (simp only [List.getElem?_toArray, List.getElem?_cons_succ, List.getElem?_cons_zero] <;> rfl)
  rw [if_pos (by rfl)]
  refine wp_loadPw (.tmp 9) W.heap.size 4 _ (genC x.pend r.pend) tyGen rfl (part_pend _ _) HR_0.out rfl rfl ?_
  (try simp only [Act.put, List.setIfInBounds_toArray, List.set_cons_zero, List.set_cons_succ])
  refine hK.out _ _ (KEEP.out _ BB0.out) (fun hHeld => ?_)
  clear hK K
  (try simp only [Act.put, List.setIfInBounds_toArray, List.set_cons_zero, List.set_cons_succ])
  refine wpAnyH_ready (rs := [1, 4]) (by decide +kernel) (by simp) ?_
  refine AllReadyH.cons (o := ?_) ?_ (fun K hK => ?_) ?_
  rotate_left 1
  focus (simp only [List.getElem?_toArray, List.getElem?_cons_succ, List.getElem?_cons_zero] <;> rfl)
  · rw [if_pos (by rfl)]
    refine wp_loadPw (.tmp 3) W.heap.size 2 _ (genC x.old r.old) tyGen rfl (part_old _ _) HR_0.out rfl rfl ?_
    (try simp only [Act.put, List.setIfInBounds_toArray, List.set_cons_zero, List.set_cons_succ])
    refine hK.out _ _ (KEEP.out _ BB0.out) (fun hHeld => ?_)
    clear hK K
    (try simp only [Act.put, List.setIfInBounds_toArray, List.set_cons_zero, List.set_cons_succ])
    refine wpAnyH_ready (rs := [2, 4]) (by decide +kernel) (by simp) ?_
    refine AllReadyH.cons (o := ?_) ?_ (fun K hK => ?_) ?_
    rotate_left 1
    focus (simp only [List.getElem?_toArray, List.getElem?_cons_succ, List.getElem?_cons_zero] <;> rfl)
    · (try rw [if_pos (by rfl)])
      go_simp
      go_at_call 33
      refine (own_any x.old r.old _ HF.out.2.1 KO_0.out).mono ?_
      rintro e wz91 ⟨⟨zo, rfl, hk⟩, hb⟩
      have BB91 := Lib.hid (belG BB0.out hb BB0.out.size)
      have KO_91 := Lib.hid (KO_0.out.go hb)
      have KC_91 := Lib.hid (KC_0.out.go hb)
      have KP_91 := Lib.hid (KP_0.out.go hb)
      have HR_91 := Lib.hid (Bx.go HR_0.out hb)
      have HN_91 := Lib.hid (Bx.go HN_0.out hb)
      have ZO_91 := Lib.hid hk
      clear hk
      clear hb
      refine hK.out _ _ (KEEP.out _ BB91.out) (fun hHeld => ?_)
      clear hK K
      (try simp only [Act.put, List.setIfInBounds_toArray, List.set_cons_zero, List.set_cons_succ])
      refine wpAnyH_ready (rs := [4]) (by decide +kernel) (by simp) ?_
      refine AllReadyH.cons (o := ?_) ?_ (fun K hK => ?_) AllReadyH.nil
      rotate_left 1
      focus (simp only [List.getElem?_toArray, List.getElem?_cons_succ, List.getElem?_cons_zero] <;> rfl)
      rw [if_pos (by rfl)]
      refine wp_loadPw (.tmp 6) W.heap.size 0 _ (genC x.cur r.cur) tyGen rfl (part_cur _ _) HR_91.out rfl rfl ?_
      (try simp only [Act.put, List.setIfInBounds_toArray, List.set_cons_zero, List.set_cons_succ])
      refine hK.out _ _ (KEEP.out _ BB91.out) (fun hHeld => ?_)
      clear hK K
      (try simp only [Act.put, List.setIfInBounds_toArray, List.set_cons_zero, List.set_cons_succ])
      refine wpAnyH_take (i := 9) (oi := ?_) (v := ?_) ?_ (by kernel_rfl) (by decide +kernel) (by decide +kernel) (fun _ _ _ h => h) ?_ (by assumption) ?_
      rotate_left 2
      focus (simp only [List.getElem?_toArray, List.getElem?_cons_succ, List.getElem?_cons_zero] <;> rfl)
      · refine Or.inl ⟨by rfl, ?_⟩
        intro w hSw
        (try dsimp only at hSw)
        go_simp <;> with_reducible rfl
      (try simp only [Act.put, List.setIfInBounds_toArray, List.set_cons_zero, List.set_cons_succ])
      refine wpAnyH_ready (rs := [5]) (by decide +kernel) (by simp) ?_
      refine AllReadyH.cons (o := ?_) ?_ (fun K hK => ?_) AllReadyH.nil
      rotate_left 1
      focus (simp only [List.getElem?_toArray, List.getElem?_cons_succ, List.getElem?_cons_zero] <;> rfl)
      (try rw [if_pos (by rfl)])
      go_simp
      go_at_call 33
      refine (own_any x.cur r.cur _ HF.out.1 KC_91.out).mono ?_
      rintro e wz93 ⟨⟨zc, rfl, hk⟩, hb⟩
      have BB93 := Lib.hid (belG BB91.out hb BB91.out.size)
      have KO_93 := Lib.hid (KO_91.out.go hb)
      have KC_93 := Lib.hid (KC_91.out.go hb)
      have KP_93 := Lib.hid (KP_91.out.go hb)
      have ZO_93 := Lib.hid (ZO_91.out.go hb)
      have HR_93 := Lib.hid (Bx.go HR_91.out hb)
      have HN_93 := Lib.hid (Bx.go HN_91.out hb)
      have ZC_93 := Lib.hid hk
      clear hk
      clear hb
      refine hK.out _ _ (KEEP.out _ BB93.out) (fun hHeld => ?_)
      clear hK K
      (try simp only [Act.put, List.setIfInBounds_toArray, List.set_cons_zero, List.set_cons_succ])
      refine wpAnyH_ready (rs := [8]) (by decide +kernel) (by simp) ?_
      refine AllReadyH.cons (o := ?_) ?_ (fun K hK => ?_) AllReadyH.nil
      rotate_left 1
      focus (simp only [List.getElem?_toArray, List.getElem?_cons_succ, List.getElem?_cons_zero] <;> rfl)
      (try rw [if_pos (by rfl)])
      go_simp
      go_at_call 33
      refine (own_any x.pend r.pend _ HF.out.2.2 KP_93.out).mono ?_
      rintro e wz94 ⟨⟨zp, rfl, hk⟩, hb⟩
      have BB94 := Lib.hid (belG BB93.out hb BB93.out.size)
      have KO_94 := Lib.hid (KO_93.out.go hb)
      have KC_94 := Lib.hid (KC_93.out.go hb)
      have KP_94 := Lib.hid (KP_93.out.go hb)
      have ZO_94 := Lib.hid (ZO_93.out.go hb)
      have ZC_94 := Lib.hid (ZC_93.out.go hb)
      have HR_94 := Lib.hid (Bx.go HR_93.out hb)
      have HN_94 := Lib.hid (Bx.go HN_93.out hb)
      have ZP_94 := Lib.hid hk
      clear hk
      clear hb
      refine hK.out _ _ (KEEP.out _ BB94.out) (fun hHeld => ?_)
      clear hK K
      (try simp only [Act.put, List.setIfInBounds_toArray, List.set_cons_zero, List.set_cons_succ])
      refine wpAnyH_ready (rs := [10]) (by decide +kernel) (by simp) ?_
      refine AllReadyH.cons (o := ?_) ?_ (fun K hK => ?_) AllReadyH.nil
      rotate_left 1
      focus (simp only [List.getElem?_toArray, List.getElem?_cons_succ, List.getElem?_cons_zero] <;> rfl)
      rw [if_pos (by rfl)]
      refine wp_storePw (.tmp 12) (.tmp 5) W.heap.size 2 _ (genC zo r.old) tyGen rfl (genC_one _ _) HR_94.out (show 2 + 2 ≤ 8 from by decide) rfl rfl rfl ?_
      (try simp only [Act.put])
      obtain ⟨wz95, hwz⟩ : ∃ x, x = wz94.setCells W.heap.size 2 ((genC zo r.old)).toList := ⟨_, rfl⟩
      have BB95 := Lib.hid (show Below W.heap.size W wz95 from by rw [hwz]; exact Below.setCellsG LER.out _ _ _ BB94.out)
      have HR_95 := Lib.hid (show Bx wz95 W.heap.size 26 (ringC ⟨x.cur, zo, x.pend⟩ r) from by rw [hwz]; exact Bx.putP _ _ HR_94.out)
      have hq := Bx.putOther HN_94.out NENR.out 2 ((genC zo r.old)).toList
      rw [← hwz] at hq
      have HN_95 := Lib.hid hq
      clear hq
      have hq := KO_94.out.putX HR_94.out (no8_ring _ _) 2 ((genC zo r.old)).toList
      rw [← hwz] at hq
      have KO_95 := Lib.hid hq
      clear hq
      have hq := KC_94.out.putX HR_94.out (no8_ring _ _) 2 ((genC zo r.old)).toList
      rw [← hwz] at hq
      have KC_95 := Lib.hid hq
      clear hq
      have hq := KP_94.out.putX HR_94.out (no8_ring _ _) 2 ((genC zo r.old)).toList
      rw [← hwz] at hq
      have KP_95 := Lib.hid hq
      clear hq
      have hq := ZO_94.out.putX HR_94.out (no8_ring _ _) 2 ((genC zo r.old)).toList
      rw [← hwz] at hq
      have ZO_95 := Lib.hid hq
      clear hq
      have hq := ZC_94.out.putX HR_94.out (no8_ring _ _) 2 ((genC zo r.old)).toList
      rw [← hwz] at hq
      have ZC_95 := Lib.hid hq
      clear hq
      have hq := ZP_94.out.putX HR_94.out (no8_ring _ _) 2 ((genC zo r.old)).toList
      rw [← hwz] at hq
      have ZP_95 := Lib.hid hq
      clear hq
      rw [← hwz]
      clear hwz
      refine hK.out _ _ (KEEP.out _ BB95.out) (fun hHeld => ?_)
      clear hK K
      (try simp only [Act.put, List.setIfInBounds_toArray, List.set_cons_zero, List.set_cons_succ])
      refine wpAnyH_take (i := 11) (oi := ?_) (v := ?_) ?_ (by kernel_rfl) (by decide +kernel) (by decide +kernel) (fun _ _ _ h => h) ?_ (by assumption) ?_
      rotate_left 2
      focus (simp only [List.getElem?_toArray, List.getElem?_cons_succ, List.getElem?_cons_zero] <;> rfl)
      · refine Or.inl ⟨by rfl, ?_⟩
        intro w hSw
        (try dsimp only at hSw)
        go_simp <;> with_reducible rfl
      (try simp only [Act.put, List.setIfInBounds_toArray, List.set_cons_zero, List.set_cons_succ])
      refine wpAnyH_ready (rs := [12]) (by decide +kernel) (by simp) ?_
      refine AllReadyH.cons (o := ?_) ?_ (fun K hK => ?_) AllReadyH.nil
      rotate_left 1
      focus (simp only [List.getElem?_toArray, List.getElem?_cons_succ, List.getElem?_cons_zero] <;> rfl)
      rw [if_pos (by rfl)]
      refine wp_storePw (.tmp 13) (.tmp 8) W.heap.size 0 _ (genC zc r.cur) tyGen rfl (genC_one _ _) HR_95.out (show 0 + 2 ≤ 8 from by decide) rfl rfl rfl ?_
      (try simp only [Act.put])
      obtain ⟨wz96, hwz⟩ : ∃ x, x = wz95.setCells W.heap.size 0 ((genC zc r.cur)).toList := ⟨_, rfl⟩
      have BB96 := Lib.hid (show Below W.heap.size W wz96 from by rw [hwz]; exact Below.setCellsG LER.out _ _ _ BB95.out)
      have HR_96 := Lib.hid (show Bx wz96 W.heap.size 26 (ringC ⟨zc, zo, x.pend⟩ r) from by rw [hwz]; exact Bx.putP _ _ HR_95.out)
      have hq := Bx.putOther HN_95.out NENR.out 0 ((genC zc r.cur)).toList
      rw [← hwz] at hq
      have HN_96 := Lib.hid hq
      clear hq
      have hq := KO_95.out.putX HR_95.out (no8_ring _ _) 0 ((genC zc r.cur)).toList
      rw [← hwz] at hq
      have KO_96 := Lib.hid hq
      clear hq
      have hq := KC_95.out.putX HR_95.out (no8_ring _ _) 0 ((genC zc r.cur)).toList
      rw [← hwz] at hq
      have KC_96 := Lib.hid hq
      clear hq
      have hq := KP_95.out.putX HR_95.out (no8_ring _ _) 0 ((genC zc r.cur)).toList
      rw [← hwz] at hq
      have KP_96 := Lib.hid hq
      clear hq
      have hq := ZO_95.out.putX HR_95.out (no8_ring _ _) 0 ((genC zc r.cur)).toList
      rw [← hwz] at hq
      have ZO_96 := Lib.hid hq
      clear hq
      have hq := ZC_95.out.putX HR_95.out (no8_ring _ _) 0 ((genC zc r.cur)).toList
      rw [← hwz] at hq
      have ZC_96 := Lib.hid hq
      clear hq
      have hq := ZP_95.out.putX HR_95.out (no8_ring _ _) 0 ((genC zc r.cur)).toList
      rw [← hwz] at hq
      have ZP_96 := Lib.hid hq
      clear hq
      rw [← hwz]
      clear hwz
      refine hK.out _ _ (KEEP.out _ BB96.out) (fun hHeld => ?_)
      clear hK K
      (try simp only [Act.put, List.setIfInBounds_toArray, List.set_cons_zero, List.set_cons_succ])
      refine wpAnyH_take (i := 13) (oi := ?_) (v := ?_) ?_ (by kernel_rfl) (by decide +kernel) (by decide +kernel) (fun _ _ _ h => h) ?_ (by assumption) ?_
      rotate_left 2
      focus (simp only [List.getElem?_toArray, List.getElem?_cons_succ, List.getElem?_cons_zero] <;> rfl)
      · refine Or.inl ⟨by rfl, ?_⟩
        intro w hSw
        (try dsimp only at hSw)
        go_simp <;> with_reducible rfl
      (try simp only [Act.put, List.setIfInBounds_toArray, List.set_cons_zero, List.set_cons_succ])
      refine wpAnyH_ready (rs := [14]) (by decide +kernel) (by simp) ?_
      refine AllReadyH.cons (o := ?_) ?_ (fun K hK => ?_) AllReadyH.nil
      rotate_left 1
      focus (simp only [List.getElem?_toArray, List.getElem?_cons_succ, List.getElem?_cons_zero] <;> rfl)
      rw [if_pos (by rfl)]
      refine wp_storePw (.tmp 14) (.tmp 11) W.heap.size 4 _ (genC zp r.pend) tyGen rfl (genC_one _ _) HR_96.out (show 4 + 2 ≤ 8 from by decide) rfl rfl rfl ?_
      (try simp only [Act.put])
      obtain ⟨wz97, hwz⟩ : ∃ x, x = wz96.setCells W.heap.size 4 ((genC zp r.pend)).toList := ⟨_, rfl⟩
      have BB97 := Lib.hid (show Below W.heap.size W wz97 from by rw [hwz]; exact Below.setCellsG LER.out _ _ _ BB96.out)
      have HR_97 := Lib.hid (show Bx wz97 W.heap.size 26 (ringC ⟨zc, zo, zp⟩ r) from by rw [hwz]; exact Bx.putP _ _ HR_96.out)
      have hq := Bx.putOther HN_96.out NENR.out 4 ((genC zp r.pend)).toList
      rw [← hwz] at hq
      have HN_97 := Lib.hid hq
      clear hq
      have hq := KO_96.out.putX HR_96.out (no8_ring _ _) 4 ((genC zp r.pend)).toList
      rw [← hwz] at hq
      have KO_97 := Lib.hid hq
      clear hq
      have hq := KC_96.out.putX HR_96.out (no8_ring _ _) 4 ((genC zp r.pend)).toList
      rw [← hwz] at hq
      have KC_97 := Lib.hid hq
      clear hq
      have hq := KP_96.out.putX HR_96.out (no8_ring _ _) 4 ((genC zp r.pend)).toList
      rw [← hwz] at hq
      have KP_97 := Lib.hid hq
      clear hq
      have hq := ZO_96.out.putX HR_96.out (no8_ring _ _) 4 ((genC zp r.pend)).toList
      rw [← hwz] at hq
      have ZO_97 := Lib.hid hq
      clear hq
      have hq := ZC_96.out.putX HR_96.out (no8_ring _ _) 4 ((genC zp r.pend)).toList
      rw [← hwz] at hq
      have ZC_97 := Lib.hid hq
      clear hq
      have hq := ZP_96.out.putX HR_96.out (no8_ring _ _) 4 ((genC zp r.pend)).toList
      rw [← hwz] at hq
      have ZP_97 := Lib.hid hq
      clear hq
      rw [← hwz]
      clear hwz
      refine hK.out _ _ (KEEP.out _ BB97.out) (fun hHeld => ?_)
      clear hK K
      (try simp only [Act.put, List.setIfInBounds_toArray, List.set_cons_zero, List.set_cons_succ])
      refine wpAnyH_done (by decide +kernel) ?_ _
      refine NoPanic.normal ?_
      clear KEEP
      obtain ⟨CC, hCC⟩ := isR ⟨zc, zo, zp⟩ r
      rw [← hCC.eq] at HR_97
      have hbl := hCC.bl
      have hsz := hCC.size
      rw [hsz] at hbl
      have HC := Lib.hid hCC
      clear hCC
      go_wp2_with (first | (refine loadX (.tmp 1) W.heap.size CC tyRing HC.out.size HR_97.out rfl rfl rfl ?_) | (refine storeX (.tmp 2) (.tmp 16) (W.heap.size + 1) CC _ tyWork HC.out.size HC.out.one HN_97.out rfl rfl rfl rfl rfl ?_))
      (try dsimp only)
      refine bodyPost_ret (retX1 rfl _ _ (W.heap.size + 1) CC tyWork HC.out.size rfl (Bx.setRow HN_97.out _)) rfl ?_
      have hb := Below.setRowG BB97.out (Nat.le_succ _) CC
      rw [HC.out.eq] at hb ⊢
      exact ⟨⟨_, rfl, RingR.setRow (x := ⟨zc, zo, zp⟩) ⟨ZC_97.out, ZO_97.out, ZP_97.out⟩ HN_97.out (no8_ring _ _)⟩, hb⟩
    refine AllReadyH.cons (o := ?_) ?_ (fun K hK => ?_) AllReadyH.nil
    rotate_left 1
    focus (simp only [List.getElem?_toArray, List.getElem?_cons_succ, List.getElem?_cons_zero] <;> rfl)
    rw [if_pos (by rfl)]
    refine wp_loadPw (.tmp 6) W.heap.size 0 _ (genC x.cur r.cur) tyGen rfl (part_cur _ _) HR_0.out rfl rfl ?_
    (try simp only [Act.put, List.setIfInBounds_toArray, List.set_cons_zero, List.set_cons_succ])
    refine hK.out _ _ (KEEP.out _ BB0.out) (fun hHeld => ?_)
    clear hK K
    (try simp only [Act.put, List.setIfInBounds_toArray, List.set_cons_zero, List.set_cons_succ])
    refine wpAnyH_ready (rs := [2]) (by decide +kernel) (by simp) ?_
    refine AllReadyH.cons (o := ?_) ?_ (fun K hK => ?_) AllReadyH.nil
    rotate_left 1
    focus (simp only [List.getElem?_toArray, List.getElem?_cons_succ, List.getElem?_cons_zero] <;> rfl)
    (try rw [if_pos (by rfl)])
    go_simp
    go_at_call 33
    refine (own_any x.old r.old _ HF.out.2.1 KO_0.out).mono ?_
    rintro e wz99 ⟨⟨zo, rfl, hk⟩, hb⟩
    have BB99 := Lib.hid (belG BB0.out hb BB0.out.size)
    have KO_99 := Lib.hid (KO_0.out.go hb)
    have KC_99 := Lib.hid (KC_0.out.go hb)
    have KP_99 := Lib.hid (KP_0.out.go hb)
    have HR_99 := Lib.hid (Bx.go HR_0.out hb)
    have HN_99 := Lib.hid (Bx.go HN_0.out hb)
    have ZO_99 := Lib.hid hk
    clear hk
    clear hb
    refine hK.out _ _ (KEEP.out _ BB99.out) (fun hHeld => ?_)
    clear hK K
    (try simp only [Act.put, List.setIfInBounds_toArray, List.set_cons_zero, List.set_cons_succ])
    refine wpAnyH_take (i := 9) (oi := ?_) (v := ?_) ?_ (by kernel_rfl) (by decide +kernel) (by decide +kernel) (fun _ _ _ h => h) ?_ (by assumption) ?_
    rotate_left 2
    focus (simp only [List.getElem?_toArray, List.getElem?_cons_succ, List.getElem?_cons_zero] <;> rfl)
    · refine Or.inl ⟨by rfl, ?_⟩
      intro w hSw
      (try dsimp only at hSw)
      go_simp <;> with_reducible rfl
    (try simp only [Act.put, List.setIfInBounds_toArray, List.set_cons_zero, List.set_cons_succ])
    refine wpAnyH_ready (rs := [5]) (by decide +kernel) (by simp) ?_
    refine AllReadyH.cons (o := ?_) ?_ (fun K hK => ?_) AllReadyH.nil
    rotate_left 1
    focus (simp only [List.getElem?_toArray, List.getElem?_cons_succ, List.getElem?_cons_zero] <;> rfl)
    (try rw [if_pos (by rfl)])
    go_simp
    go_at_call 33
    refine (own_any x.cur r.cur _ HF.out.1 KC_99.out).mono ?_
    rintro e wz100 ⟨⟨zc, rfl, hk⟩, hb⟩
    have BB100 := Lib.hid (belG BB99.out hb BB99.out.size)
    have KO_100 := Lib.hid (KO_99.out.go hb)
    have KC_100 := Lib.hid (KC_99.out.go hb)
    have KP_100 := Lib.hid (KP_99.out.go hb)
    have ZO_100 := Lib.hid (ZO_99.out.go hb)
    have HR_100 := Lib.hid (Bx.go HR_99.out hb)
    have HN_100 := Lib.hid (Bx.go HN_99.out hb)
    have ZC_100 := Lib.hid hk
    clear hk
    clear hb
    refine hK.out _ _ (KEEP.out _ BB100.out) (fun hHeld => ?_)
    clear hK K
    (try simp only [Act.put, List.setIfInBounds_toArray, List.set_cons_zero, List.set_cons_succ])
    refine wpAnyH_ready (rs := [8]) (by decide +kernel) (by simp) ?_
    refine AllReadyH.cons (o := ?_) ?_ (fun K hK => ?_) AllReadyH.nil
    rotate_left 1
    focus (simp only [List.getElem?_toArray, List.getElem?_cons_succ, List.getElem?_cons_zero] <;> rfl)
    (try rw [if_pos (by rfl)])
    go_simp
    go_at_call 33
    refine (own_any x.pend r.pend _ HF.out.2.2 KP_100.out).mono ?_
    rintro e wz101 ⟨⟨zp, rfl, hk⟩, hb⟩
    have BB101 := Lib.hid (belG BB100.out hb BB100.out.size)
    have KO_101 := Lib.hid (KO_100.out.go hb)
    have KC_101 := Lib.hid (KC_100.out.go hb)
    have KP_101 := Lib.hid (KP_100.out.go hb)
    have ZO_101 := Lib.hid (ZO_100.out.go hb)
    have ZC_101 := Lib.hid (ZC_100.out.go hb)
    have HR_101 := Lib.hid (Bx.go HR_100.out hb)
    have HN_101 := Lib.hid (Bx.go HN_100.out hb)
    have ZP_101 := Lib.hid hk
    clear hk
    clear hb
    refine hK.out _ _ (KEEP.out _ BB101.out) (fun hHeld => ?_)
    clear hK K
    (try simp only [Act.put, List.setIfInBounds_toArray, List.set_cons_zero, List.set_cons_succ])
    refine wpAnyH_ready (rs := [10]) (by decide +kernel) (by simp) ?_
    refine AllReadyH.cons (o := ?_) ?_ (fun K hK => ?_) AllReadyH.nil
    rotate_left 1
    focus (simp only [List.getElem?_toArray, List.getElem?_cons_succ, List.getElem?_cons_zero] <;> rfl)
    rw [if_pos (by rfl)]
    refine wp_storePw (.tmp 12) (.tmp 5) W.heap.size 2 _ (genC zo r.old) tyGen rfl (genC_one _ _) HR_101.out (show 2 + 2 ≤ 8 from by decide) rfl rfl rfl ?_
    (try simp only [Act.put])
    obtain ⟨wz102, hwz⟩ : ∃ x, x = wz101.setCells W.heap.size 2 ((genC zo r.old)).toList := ⟨_, rfl⟩
    have BB102 := Lib.hid (show Below W.heap.size W wz102 from by rw [hwz]; exact Below.setCellsG LER.out _ _ _ BB101.out)
    have HR_102 := Lib.hid (show Bx wz102 W.heap.size 26 (ringC ⟨x.cur, zo, x.pend⟩ r) from by rw [hwz]; exact Bx.putP _ _ HR_101.out)
    have hq := Bx.putOther HN_101.out NENR.out 2 ((genC zo r.old)).toList
    rw [← hwz] at hq
    have HN_102 := Lib.hid hq
    clear hq
    have hq := KO_101.out.putX HR_101.out (no8_ring _ _) 2 ((genC zo r.old)).toList
    rw [← hwz] at hq
    have KO_102 := Lib.hid hq
    clear hq
    have hq := KC_101.out.putX HR_101.out (no8_ring _ _) 2 ((genC zo r.old)).toList
    rw [← hwz] at hq
    have KC_102 := Lib.hid hq
    clear hq
    have hq := KP_101.out.putX HR_101.out (no8_ring _ _) 2 ((genC zo r.old)).toList
    rw [← hwz] at hq
    have KP_102 := Lib.hid hq
    clear hq
    have hq := ZO_101.out.putX HR_101.out (no8_ring _ _) 2 ((genC zo r.old)).toList
    rw [← hwz] at hq
    have ZO_102 := Lib.hid hq
    clear hq
    have hq := ZC_101.out.putX HR_101.out (no8_ring _ _) 2 ((genC zo r.old)).toList
    rw [← hwz] at hq
    have ZC_102 := Lib.hid hq
    clear hq
    have hq := ZP_101.out.putX HR_101.out (no8_ring _ _) 2 ((genC zo r.old)).toList
    rw [← hwz] at hq
    have ZP_102 := Lib.hid hq
    clear hq
    rw [← hwz]
    clear hwz
    refine hK.out _ _ (KEEP.out _ BB102.out) (fun hHeld => ?_)
    clear hK K
    (try simp only [Act.put, List.setIfInBounds_toArray, List.set_cons_zero, List.set_cons_succ])
    refine wpAnyH_take (i := 11) (oi := ?_) (v := ?_) ?_ (by kernel_rfl) (by decide +kernel) (by decide +kernel) (fun _ _ _ h => h) ?_ (by assumption) ?_
    rotate_left 2
    focus (simp only [List.getElem?_toArray, List.getElem?_cons_succ, List.getElem?_cons_zero] <;> rfl)
    · refine Or.inl ⟨by rfl, ?_⟩
      intro w hSw
      (try dsimp only at hSw)
      go_simp <;> with_reducible rfl
    (try simp only [Act.put, List.setIfInBounds_toArray, List.set_cons_zero, List.set_cons_succ])
    refine wpAnyH_ready (rs := [12]) (by decide +kernel) (by simp) ?_
    refine AllReadyH.cons (o := ?_) ?_ (fun K hK => ?_) AllReadyH.nil
    rotate_left 1
    focus (simp only [List.getElem?_toArray, List.getElem?_cons_succ, List.getElem?_cons_zero] <;> rfl)
    rw [if_pos (by rfl)]
    refine wp_storePw (.tmp 13) (.tmp 8) W.heap.size 0 _ (genC zc r.cur) tyGen rfl (genC_one _ _) HR_102.out (show 0 + 2 ≤ 8 from by decide) rfl rfl rfl ?_
    (try simp only [Act.put])
    obtain ⟨wz103, hwz⟩ : ∃ x, x = wz102.setCells W.heap.size 0 ((genC zc r.cur)).toList := ⟨_, rfl⟩
    have BB103 := Lib.hid (show Below W.heap.size W wz103 from by rw [hwz]; exact Below.setCellsG LER.out _ _ _ BB102.out)
    have HR_103 := Lib.hid (show Bx wz103 W.heap.size 26 (ringC ⟨zc, zo, x.pend⟩ r) from by rw [hwz]; exact Bx.putP _ _ HR_102.out)
    have hq := Bx.putOther HN_102.out NENR.out 0 ((genC zc r.cur)).toList
    rw [← hwz] at hq
    have HN_103 := Lib.hid hq
    clear hq
    have hq := KO_102.out.putX HR_102.out (no8_ring _ _) 0 ((genC zc r.cur)).toList
    rw [← hwz] at hq
    have KO_103 := Lib.hid hq
    clear hq
    have hq := KC_102.out.putX HR_102.out (no8_ring _ _) 0 ((genC zc r.cur)).toList
    rw [← hwz] at hq
    have KC_103 := Lib.hid hq
    clear hq
    have hq := KP_102.out.putX HR_102.out (no8_ring _ _) 0 ((genC zc r.cur)).toList
    rw [← hwz] at hq
    have KP_103 := Lib.hid hq
    clear hq
    have hq := ZO_102.out.putX HR_102.out (no8_ring _ _) 0 ((genC zc r.cur)).toList
    rw [← hwz] at hq
    have ZO_103 := Lib.hid hq
    clear hq
    have hq := ZC_102.out.putX HR_102.out (no8_ring _ _) 0 ((genC zc r.cur)).toList
    rw [← hwz] at hq
    have ZC_103 := Lib.hid hq
    clear hq
    have hq := ZP_102.out.putX HR_102.out (no8_ring _ _) 0 ((genC zc r.cur)).toList
    rw [← hwz] at hq
    have ZP_103 := Lib.hid hq
    clear hq
    rw [← hwz]
    clear hwz
    refine hK.out _ _ (KEEP.out _ BB103.out) (fun hHeld => ?_)
    clear hK K
    (try simp only [Act.put, List.setIfInBounds_toArray, List.set_cons_zero, List.set_cons_succ])
    refine wpAnyH_take (i := 13) (oi := ?_) (v := ?_) ?_ (by kernel_rfl) (by decide +kernel) (by decide +kernel) (fun _ _ _ h => h) ?_ (by assumption) ?_
    rotate_left 2
    focus (simp only [List.getElem?_toArray, List.getElem?_cons_succ, List.getElem?_cons_zero] <;> rfl)
    · refine Or.inl ⟨by rfl, ?_⟩
      intro w hSw
      (try dsimp only at hSw)
      go_simp <;> with_reducible rfl
    (try simp only [Act.put, List.setIfInBounds_toArray, List.set_cons_zero, List.set_cons_succ])
    refine wpAnyH_ready (rs := [14]) (by decide +kernel) (by simp) ?_
    refine AllReadyH.cons (o := ?_) ?_ (fun K hK => ?_) AllReadyH.nil
    rotate_left 1
    focus (simp only [List.getElem?_toArray, List.getElem?_cons_succ, List.getElem?_cons_zero] <;> rfl)
    rw [if_pos (by rfl)]
    refine wp_storePw (.tmp 14) (.tmp 11) W.heap.size 4 _ (genC zp r.pend) tyGen rfl (genC_one _ _) HR_103.out (show 4 + 2 ≤ 8 from by decide) rfl rfl rfl ?_
    (try simp only [Act.put])
    obtain ⟨wz104, hwz⟩ : ∃ x, x = wz103.setCells W.heap.size 4 ((genC zp r.pend)).toList := ⟨_, rfl⟩
    have BB104 := Lib.hid (show Below W.heap.size W wz104 from by rw [hwz]; exact Below.setCellsG LER.out _ _ _ BB103.out)
    have HR_104 := Lib.hid (show Bx wz104 W.heap.size 26 (ringC ⟨zc, zo, zp⟩ r) from by rw [hwz]; exact Bx.putP _ _ HR_103.out)
    have hq := Bx.putOther HN_103.out NENR.out 4 ((genC zp r.pend)).toList
    rw [← hwz] at hq
    have HN_104 := Lib.hid hq
    clear hq
    have hq := KO_103.out.putX HR_103.out (no8_ring _ _) 4 ((genC zp r.pend)).toList
    rw [← hwz] at hq
    have KO_104 := Lib.hid hq
    clear hq
    have hq := KC_103.out.putX HR_103.out (no8_ring _ _) 4 ((genC zp r.pend)).toList
    rw [← hwz] at hq
    have KC_104 := Lib.hid hq
    clear hq
    have hq := KP_103.out.putX HR_103.out (no8_ring _ _) 4 ((genC zp r.pend)).toList
    rw [← hwz] at hq
    have KP_104 := Lib.hid hq
    clear hq
    have hq := ZO_103.out.putX HR_103.out (no8_ring _ _) 4 ((genC zp r.pend)).toList
    rw [← hwz] at hq
    have ZO_104 := Lib.hid hq
    clear hq
    have hq := ZC_103.out.putX HR_103.out (no8_ring _ _) 4 ((genC zp r.pend)).toList
    rw [← hwz] at hq
    have ZC_104 := Lib.hid hq
    clear hq
    have hq := ZP_103.out.putX HR_103.out (no8_ring _ _) 4 ((genC zp r.pend)).toList
    rw [← hwz] at hq
    have ZP_104 := Lib.hid hq
    clear hq
    rw [← hwz]
    clear hwz
    refine hK.out _ _ (KEEP.out _ BB104.out) (fun hHeld => ?_)
    clear hK K
    (try simp only [Act.put, List.setIfInBounds_toArray, List.set_cons_zero, List.set_cons_succ])
    refine wpAnyH_done (by decide +kernel) ?_ _
    refine NoPanic.normal ?_
    clear KEEP
    obtain ⟨CC, hCC⟩ := isR ⟨zc, zo, zp⟩ r
    rw [← hCC.eq] at HR_104
    have hbl := hCC.bl
    have hsz := hCC.size
    rw [hsz] at hbl
    have HC := Lib.hid hCC
    clear hCC
    go_wp2_with (first | (refine loadX (.tmp 1) W.heap.size CC tyRing HC.out.size HR_104.out rfl rfl rfl ?_) | (refine storeX (.tmp 2) (.tmp 16) (W.heap.size + 1) CC _ tyWork HC.out.size HC.out.one HN_104.out rfl rfl rfl rfl rfl ?_))
    (try dsimp only)
    refine bodyPost_ret (retX1 rfl _ _ (W.heap.size + 1) CC tyWork HC.out.size rfl (Bx.setRow HN_104.out _)) rfl ?_
    have hb := Below.setRowG BB104.out (Nat.le_succ _) CC
    rw [HC.out.eq] at hb ⊢
    exact ⟨⟨_, rfl, RingR.setRow (x := ⟨zc, zo, zp⟩) ⟨ZC_104.out, ZO_104.out, ZP_104.out⟩ HN_104.out (no8_ring _ _)⟩, hb⟩
  refine AllReadyH.cons (o := ?_) ?_ (fun K hK => ?_) AllReadyH.nil
  rotate_left 1
  focus (simp only [List.getElem?_toArray, List.getElem?_cons_succ, List.getElem?_cons_zero] <;> rfl)
  rw [if_pos (by rfl)]
  refine wp_loadPw (.tmp 6) W.heap.size 0 _ (genC x.cur r.cur) tyGen rfl (part_cur _ _) HR_0.out rfl rfl ?_
  (try simp only [Act.put, List.setIfInBounds_toArray, List.set_cons_zero, List.set_cons_succ])
  refine hK.out _ _ (KEEP.out _ BB0.out) (fun hHeld => ?_)
  clear hK K
  (try simp only [Act.put, List.setIfInBounds_toArray, List.set_cons_zero, List.set_cons_succ])
  refine wpAnyH_ready (rs := [1]) (by decide +kernel) (by simp) ?_
  refine AllReadyH.cons (o := ?_) ?_ (fun K hK => ?_) AllReadyH.nil
  rotate_left 1
  focus (simp only [List.getElem?_toArray, List.getElem?_cons_succ, List.getElem?_cons_zero] <;> rfl)
  rw [if_pos (by rfl)]
  refine wp_loadPw (.tmp 3) W.heap.size 2 _ (genC x.old r.old) tyGen rfl (part_old _ _) HR_0.out rfl rfl ?_
  (try simp only [Act.put, List.setIfInBounds_toArray, List.set_cons_zero, List.set_cons_succ])
  refine hK.out _ _ (KEEP.out _ BB0.out) (fun hHeld => ?_)
  clear hK K
  (try simp only [Act.put, List.setIfInBounds_toArray, List.set_cons_zero, List.set_cons_succ])
  refine wpAnyH_ready (rs := [2]) (by decide +kernel) (by simp) ?_
  refine AllReadyH.cons (o := ?_) ?_ (fun K hK => ?_) AllReadyH.nil
  rotate_left 1
  focus (simp only [List.getElem?_toArray, List.getElem?_cons_succ, List.getElem?_cons_zero] <;> rfl)
  (try rw [if_pos (by rfl)])
  go_simp
  go_at_call 33
  refine (own_any x.old r.old _ HF.out.2.1 KO_0.out).mono ?_
  rintro e wz107 ⟨⟨zo, rfl, hk⟩, hb⟩
  have BB107 := Lib.hid (belG BB0.out hb BB0.out.size)
  have KO_107 := Lib.hid (KO_0.out.go hb)
  have KC_107 := Lib.hid (KC_0.out.go hb)
  have KP_107 := Lib.hid (KP_0.out.go hb)
  have HR_107 := Lib.hid (Bx.go HR_0.out hb)
  have HN_107 := Lib.hid (Bx.go HN_0.out hb)
  have ZO_107 := Lib.hid hk
  clear hk
  clear hb
  refine hK.out _ _ (KEEP.out _ BB107.out) (fun hHeld => ?_)
  clear hK K
  (try simp only [Act.put, List.setIfInBounds_toArray, List.set_cons_zero, List.set_cons_succ])
  refine wpAnyH_take (i := 9) (oi := ?_) (v := ?_) ?_ (by kernel_rfl) (by decide +kernel) (by decide +kernel) (fun _ _ _ h => h) ?_ (by assumption) ?_
  rotate_left 2
  focus (simp only [List.getElem?_toArray, List.getElem?_cons_succ, List.getElem?_cons_zero] <;> rfl)
  · refine Or.inl ⟨by rfl, ?_⟩
    intro w hSw
    (try dsimp only at hSw)
    go_simp <;> with_reducible rfl
  (try simp only [Act.put, List.setIfInBounds_toArray, List.set_cons_zero, List.set_cons_succ])
  refine wpAnyH_ready (rs := [5]) (by decide +kernel) (by simp) ?_
  refine AllReadyH.cons (o := ?_) ?_ (fun K hK => ?_) AllReadyH.nil
  rotate_left 1
  focus (simp only [List.getElem?_toArray, List.getElem?_cons_succ, List.getElem?_cons_zero] <;> rfl)
  (try rw [if_pos (by rfl)])
  go_simp
  go_at_call 33
  refine (own_any x.cur r.cur _ HF.out.1 KC_107.out).mono ?_
  rintro e wz108 ⟨⟨zc, rfl, hk⟩, hb⟩
  have BB108 := Lib.hid (belG BB107.out hb BB107.out.size)
  have KO_108 := Lib.hid (KO_107.out.go hb)
  have KC_108 := Lib.hid (KC_107.out.go hb)
  have KP_108 := Lib.hid (KP_107.out.go hb)
  have ZO_108 := Lib.hid (ZO_107.out.go hb)
  have HR_108 := Lib.hid (Bx.go HR_107.out hb)
  have HN_108 := Lib.hid (Bx.go HN_107.out hb)
  have ZC_108 := Lib.hid hk
  clear hk
  clear hb
  refine hK.out _ _ (KEEP.out _ BB108.out) (fun hHeld => ?_)
  clear hK K
  (try simp only [Act.put, List.setIfInBounds_toArray, List.set_cons_zero, List.set_cons_succ])
  refine wpAnyH_ready (rs := [8]) (by decide +kernel) (by simp) ?_
  refine AllReadyH.cons (o := ?_) ?_ (fun K hK => ?_) AllReadyH.nil
  rotate_left 1
  focus (simp only [List.getElem?_toArray, List.getElem?_cons_succ, List.getElem?_cons_zero] <;> rfl)
  (try rw [if_pos (by rfl)])
  go_simp
  go_at_call 33
  refine (own_any x.pend r.pend _ HF.out.2.2 KP_108.out).mono ?_
  rintro e wz109 ⟨⟨zp, rfl, hk⟩, hb⟩
  have BB109 := Lib.hid (belG BB108.out hb BB108.out.size)
  have KO_109 := Lib.hid (KO_108.out.go hb)
  have KC_109 := Lib.hid (KC_108.out.go hb)
  have KP_109 := Lib.hid (KP_108.out.go hb)
  have ZO_109 := Lib.hid (ZO_108.out.go hb)
  have ZC_109 := Lib.hid (ZC_108.out.go hb)
  have HR_109 := Lib.hid (Bx.go HR_108.out hb)
  have HN_109 := Lib.hid (Bx.go HN_108.out hb)
  have ZP_109 := Lib.hid hk
  clear hk
  clear hb
  refine hK.out _ _ (KEEP.out _ BB109.out) (fun hHeld => ?_)
  clear hK K
  (try simp only [Act.put, List.setIfInBounds_toArray, List.set_cons_zero, List.set_cons_succ])
  refine wpAnyH_ready (rs := [10]) (by decide +kernel) (by simp) ?_
  refine AllReadyH.cons (o := ?_) ?_ (fun K hK => ?_) AllReadyH.nil
  rotate_left 1
  focus (simp only [List.getElem?_toArray, List.getElem?_cons_succ, List.getElem?_cons_zero] <;> rfl)
  rw [if_pos (by rfl)]
  refine wp_storePw (.tmp 12) (.tmp 5) W.heap.size 2 _ (genC zo r.old) tyGen rfl (genC_one _ _) HR_109.out (show 2 + 2 ≤ 8 from by decide) rfl rfl rfl ?_
  (try simp only [Act.put])
  obtain ⟨wz110, hwz⟩ : ∃ x, x = wz109.setCells W.heap.size 2 ((genC zo r.old)).toList := ⟨_, rfl⟩
  have BB110 := Lib.hid (show Below W.heap.size W wz110 from by rw [hwz]; exact Below.setCellsG LER.out _ _ _ BB109.out)
  have HR_110 := Lib.hid (show Bx wz110 W.heap.size 26 (ringC ⟨x.cur, zo, x.pend⟩ r) from by rw [hwz]; exact Bx.putP _ _ HR_109.out)
  have hq := Bx.putOther HN_109.out NENR.out 2 ((genC zo r.old)).toList
  rw [← hwz] at hq
  have HN_110 := Lib.hid hq
  clear hq
  have hq := KO_109.out.putX HR_109.out (no8_ring _ _) 2 ((genC zo r.old)).toList
  rw [← hwz] at hq
  have KO_110 := Lib.hid hq
  clear hq
  have hq := KC_109.out.putX HR_109.out (no8_ring _ _) 2 ((genC zo r.old)).toList
  rw [← hwz] at hq
  have KC_110 := Lib.hid hq
  clear hq
  have hq := KP_109.out.putX HR_109.out (no8_ring _ _) 2 ((genC zo r.old)).toList
  rw [← hwz] at hq
  have KP_110 := Lib.hid hq
  clear hq
  have hq := ZO_109.out.putX HR_109.out (no8_ring _ _) 2 ((genC zo r.old)).toList
  rw [← hwz] at hq
  have ZO_110 := Lib.hid hq
  clear hq
  have hq := ZC_109.out.putX HR_109.out (no8_ring _ _) 2 ((genC zo r.old)).toList
  rw [← hwz] at hq
  have ZC_110 := Lib.hid hq
  clear hq
  have hq := ZP_109.out.putX HR_109.out (no8_ring _ _) 2 ((genC zo r.old)).toList
  rw [← hwz] at hq
  have ZP_110 := Lib.hid hq
  clear hq
  rw [← hwz]
  clear hwz
  refine hK.out _ _ (KEEP.out _ BB110.out) (fun hHeld => ?_)
  clear hK K
  (try simp only [Act.put, List.setIfInBounds_toArray, List.set_cons_zero, List.set_cons_succ])
  refine wpAnyH_take (i := 11) (oi := ?_) (v := ?_) ?_ (by kernel_rfl) (by decide +kernel) (by decide +kernel) (fun _ _ _ h => h) ?_ (by assumption) ?_
  rotate_left 2
  focus (simp only [List.getElem?_toArray, List.getElem?_cons_succ, List.getElem?_cons_zero] <;> rfl)
  · refine Or.inl ⟨by rfl, ?_⟩
    intro w hSw
    (try dsimp only at hSw)
    go_simp <;> with_reducible rfl
  (try simp only [Act.put, List.setIfInBounds_toArray, List.set_cons_zero, List.set_cons_succ])
  refine wpAnyH_ready (rs := [12]) (by decide +kernel) (by simp) ?_
  refine AllReadyH.cons (o := ?_) ?_ (fun K hK => ?_) AllReadyH.nil
  rotate_left 1
  focus (simp only [List.getElem?_toArray, List.getElem?_cons_succ, List.getElem?_cons_zero] <;> rfl)
  rw [if_pos (by rfl)]
  refine wp_storePw (.tmp 13) (.tmp 8) W.heap.size 0 _ (genC zc r.cur) tyGen rfl (genC_one _ _) HR_110.out (show 0 + 2 ≤ 8 from by decide) rfl rfl rfl ?_
  (try simp only [Act.put])
  obtain ⟨wz111, hwz⟩ : ∃ x, x = wz110.setCells W.heap.size 0 ((genC zc r.cur)).toList := ⟨_, rfl⟩
  have BB111 := Lib.hid (show Below W.heap.size W wz111 from by rw [hwz]; exact Below.setCellsG LER.out _ _ _ BB110.out)
  have HR_111 := Lib.hid (show Bx wz111 W.heap.size 26 (ringC ⟨zc, zo, x.pend⟩ r) from by rw [hwz]; exact Bx.putP _ _ HR_110.out)
  have hq := Bx.putOther HN_110.out NENR.out 0 ((genC zc r.cur)).toList
  rw [← hwz] at hq
  have HN_111 := Lib.hid hq
  clear hq
  have hq := KO_110.out.putX HR_110.out (no8_ring _ _) 0 ((genC zc r.cur)).toList
  rw [← hwz] at hq
  have KO_111 := Lib.hid hq
  clear hq
  have hq := KC_110.out.putX HR_110.out (no8_ring _ _) 0 ((genC zc r.cur)).toList
  rw [← hwz] at hq
  have KC_111 := Lib.hid hq
  clear hq
  have hq := KP_110.out.putX HR_110.out (no8_ring _ _) 0 ((genC zc r.cur)).toList
  rw [← hwz] at hq
  have KP_111 := Lib.hid hq
  clear hq
  have hq := ZO_110.out.putX HR_110.out (no8_ring _ _) 0 ((genC zc r.cur)).toList
  rw [← hwz] at hq
  have ZO_111 := Lib.hid hq
  clear hq
  have hq := ZC_110.out.putX HR_110.out (no8_ring _ _) 0 ((genC zc r.cur)).toList
  rw [← hwz] at hq
  have ZC_111 := Lib.hid hq
  clear hq
  have hq := ZP_110.out.putX HR_110.out (no8_ring _ _) 0 ((genC zc r.cur)).toList
  rw [← hwz] at hq
  have ZP_111 := Lib.hid hq
  clear hq
  rw [← hwz]
  clear hwz
  refine hK.out _ _ (KEEP.out _ BB111.out) (fun hHeld => ?_)
  clear hK K
  (try simp only [Act.put, List.setIfInBounds_toArray, List.set_cons_zero, List.set_cons_succ])
  refine wpAnyH_take (i := 13) (oi := ?_) (v := ?_) ?_ (by kernel_rfl) (by decide +kernel) (by decide +kernel) (fun _ _ _ h => h) ?_ (by assumption) ?_
  rotate_left 2
  focus (simp only [List.getElem?_toArray, List.getElem?_cons_succ, List.getElem?_cons_zero] <;> rfl)
  · refine Or.inl ⟨by rfl, ?_⟩
    intro w hSw
    (try dsimp only at hSw)
    go_simp <;> with_reducible rfl
  (try simp only [Act.put, List.setIfInBounds_toArray, List.set_cons_zero, List.set_cons_succ])
  refine wpAnyH_ready (rs := [14]) (by decide +kernel) (by simp) ?_
  refine AllReadyH.cons (o := ?_) ?_ (fun K hK => ?_) AllReadyH.nil
  rotate_left 1
  focus (simp only [List.getElem?_toArray, List.getElem?_cons_succ, List.getElem?_cons_zero] <;> rfl)
  rw [if_pos (by rfl)]
  refine wp_storePw (.tmp 14) (.tmp 11) W.heap.size 4 _ (genC zp r.pend) tyGen rfl (genC_one _ _) HR_111.out (show 4 + 2 ≤ 8 from by decide) rfl rfl rfl ?_
  (try simp only [Act.put])
  obtain ⟨wz112, hwz⟩ : ∃ x, x = wz111.setCells W.heap.size 4 ((genC zp r.pend)).toList := ⟨_, rfl⟩
  have BB112 := Lib.hid (show Below W.heap.size W wz112 from by rw [hwz]; exact Below.setCellsG LER.out _ _ _ BB111.out)
  have HR_112 := Lib.hid (show Bx wz112 W.heap.size 26 (ringC ⟨zc, zo, zp⟩ r) from by rw [hwz]; exact Bx.putP _ _ HR_111.out)
  have hq := Bx.putOther HN_111.out NENR.out 4 ((genC zp r.pend)).toList
  rw [← hwz] at hq
  have HN_112 := Lib.hid hq
  clear hq
  have hq := KO_111.out.putX HR_111.out (no8_ring _ _) 4 ((genC zp r.pend)).toList
  rw [← hwz] at hq
  have KO_112 := Lib.hid hq
  clear hq
  have hq := KC_111.out.putX HR_111.out (no8_ring _ _) 4 ((genC zp r.pend)).toList
  rw [← hwz] at hq
  have KC_112 := Lib.hid hq
  clear hq
  have hq := KP_111.out.putX HR_111.out (no8_ring _ _) 4 ((genC zp r.pend)).toList
  rw [← hwz] at hq
  have KP_112 := Lib.hid hq
  clear hq
  have hq := ZO_111.out.putX HR_111.out (no8_ring _ _) 4 ((genC zp r.pend)).toList
  rw [← hwz] at hq
  have ZO_112 := Lib.hid hq
  clear hq
  have hq := ZC_111.out.putX HR_111.out (no8_ring _ _) 4 ((genC zp r.pend)).toList
  rw [← hwz] at hq
  have ZC_112 := Lib.hid hq
  clear hq
  have hq := ZP_111.out.putX HR_111.out (no8_ring _ _) 4 ((genC zp r.pend)).toList
  rw [← hwz] at hq
  have ZP_112 := Lib.hid hq
  clear hq
  rw [← hwz]
  clear hwz
  refine hK.out _ _ (KEEP.out _ BB112.out) (fun hHeld => ?_)
  clear hK K
  (try simp only [Act.put, List.setIfInBounds_toArray, List.set_cons_zero, List.set_cons_succ])
  refine wpAnyH_done (by decide +kernel) ?_ _
  refine NoPanic.normal ?_
  clear KEEP
  obtain ⟨CC, hCC⟩ := isR ⟨zc, zo, zp⟩ r
  rw [← hCC.eq] at HR_112
  have hbl := hCC.bl
  have hsz := hCC.size
  rw [hsz] at hbl
  have HC := Lib.hid hCC
  clear hCC
  go_wp2_with (first | (refine loadX (.tmp 1) W.heap.size CC tyRing HC.out.size HR_112.out rfl rfl rfl ?_) | (refine storeX (.tmp 2) (.tmp 16) (W.heap.size + 1) CC _ tyWork HC.out.size HC.out.one HN_112.out rfl rfl rfl rfl rfl ?_))
  (try dsimp only)
  refine bodyPost_ret (retX1 rfl _ _ (W.heap.size + 1) CC tyWork HC.out.size rfl (Bx.setRow HN_112.out _)) rfl ?_
  have hb := Below.setRowG BB112.out (Nat.le_succ _) CC
  rw [HC.out.eq] at hb ⊢
  exact ⟨⟨_, rfl, RingR.setRow (x := ⟨zc, zo, zp⟩) ⟨ZC_112.out, ZO_112.out, ZP_112.out⟩ HN_112.out (no8_ring _ _)⟩, hb⟩
set_option maxRecDepth 100000 in
set_option maxHeartbeats 4000000 in
theorem gens_any (x : Wg) (r : Rg) (W : World) : Calls Try.prog 41 #[.agg (ringC x r)] W fun e W' => e = .returned (.agg (gensC x r)) ∧ Below W.heap.size W W' := by
  obtain ⟨V, C, hC, hV, hb, hg, hj⟩ := bxWG W x r
  have x0 := hg.cell (ringC_cn x r)
  have x1 := hg.cell (ringC_ck x r)
  have y0 := hg.cell (ringC_on x r)
  have y1 := hg.cell (ringC_ok x r)
  have z0 := hg.cell (ringC_pn x r)
  have z1 := hg.cell (ringC_pk x r)
  have HB := Lib.hid hb
  have HV := Lib.hid hV
  have HJ := Lib.hid hj
  rw [← hC]
  clear hC hV hb hg hj
  go_enter Try.func41, Try.ntmps41
  go_upto_region 1 with (fail)
  rw [← HV.out]
  clear HV
  go_wp2_with (refine storeX (.tmp 2) (.tmp 12) (W.heap.size + 1) (gensC x r) _ tyG3 rfl (gensC_one _ _) HJ.out rfl rfl rfl rfl rfl ?_)
  (try simp only [Exit.inBlock, Exit.then])
  refine bodyPost_ret (retX1 rfl _ _ (W.heap.size + 1) (gensC x r) tyG3 rfl rfl (Bx.setRow HJ.out _)) rfl ?_
  exact ⟨rfl, Below.setRowG HB.out (Nat.le_succ _) _⟩
end Go.Proofs.Ytgnccfcdonoegaa
