
/- Package bitmap: Read; what each call answers (the contracts: bRight_any, bPlace_any, bWrite_any, bRead_any). -/
import Derived.Test.YtpfjecjfooefoaaDoorJ35
namespace Go.Proofs.YtpfjecjfooefoaaDoor
open Go.RowKit Go.Shelf
attribute [local go_sem] Oper.semAt_some

set_option maxRecDepth 100000 in
theorem wpListIn_appI {F : Fence} {n : Nat} {ops : Array Oper} {rest : List Oper} {o : Oper} {a : Act} {Q : Exit → Act → World → Prop} (w : World) (hg : o.guard = none) (s x : Operand)
    (ho : o.op = .call { callee := .builtin .append, args := #[s, x], argTypes := #[65, 65] })
    (base : Nat) (v : Value) (l news : List Int) (hs : a.eval s = v) (h : OwI w base v l) (A : Option Addr) (m c B : Nat) (hx : a.eval x = .slice A m c) (hm : m = news.length)
    (hr : RdI w B A news) (hlen : l.length + news.length ≤ 10000000) (hbase : base ≤ w.heap.size)
    (hK : ∀ v' w', OwI w' base v' (l ++ news) → w.grownBy w' v.ownBlock → wpListIn F n Tryd.prog ops Q rest (a.put o.dst v') w') : wpListIn F n Tryd.prog ops Q (o :: rest) a w := by
  subst hm
  obtain ⟨v', w', hrun, h2, h3⟩ := run_appI o.type w base v l news h A c B hr hlen hbase
  refine wpListIn_plain hg fun K hK' => ?_
  unfold Oper.wpIn
  refine ⟨?_, ?_⟩
  · simp [Oper.about, ho, resolve, Target.leads, Sem.run_pure]
  · rw [Oper.semAt_plain F _ _ (by rw [ho]; intro c hc'; cases hc')]
    simp [execOp, ho, resolve, invoke, builtin, hs, hx, hrun, Result.andThen]
    exact hK' _ _ (hK v' w' h2 h3)
set_option maxRecDepth 100000 in
theorem OwI.own (base : Nat) : Own (fun (p : Value × List Int) W => OwI W base p.1 p.2) := fun s X Y row hs hg hrow => by
  refine ⟨hs.1, ?_⟩
  rcases hs.2 with h0 | ⟨g, cap, cur, e, hb, hgg, h2, h3, h4, h5⟩
  · exact .inl h0
  · refine .inr ⟨g, cap, cur, e, hb, (hg.block g (Array.getElem?_eq_some_iff.1 hgg).1 (fun e' => ?_)).trans hgg, h2, h3, h4, h5⟩
    obtain ⟨o, ho, hc⟩ := hrow g e'.symm
    rw [hgg] at ho
    cases ho
    cases hc
set_option maxRecDepth 100000 in
theorem KpB.own {β : Type} (B Bs : Nat) (w0 : World) (hB : B ≤ w0.heap.size) (hs : Bs < w0.heap.size) : OwnFrom w0.heap.size (fun (_ : β) W => KpB B Bs w0 W) := fun _ X Y row hk hg hr =>
  ⟨(ownFrom_below (β := Unit) (w₀ := w0) hB hB) () X Y row hk.1 hg hr, fun h => (hg.block Bs (Nat.lt_of_lt_of_le hs hk.1.size) (fun e => by have := (hr Bs e.symm).1; omega)).trans (hk.2 h)⟩

/-- what the rounds leave: the box Bx holds the call's own slice of the numbers picked -/
def RdI9 (Bx base : Nat) (pre : List Nat) (W : World) : Prop := ∃ v, W.heap[Bx]? = some (.cells #[v] 65 (0, 0)) ∧ OwI W base v (pickU pre)

set_option maxRecDepth 100000 in
theorem RdI9.own (Bx base B : Nat) : OwnFrom B (RdI9 Bx base) := fun s X Y row hs hg hr => by
  obtain ⟨v, h1, h2⟩ := hs
  refine ⟨v, (hg.block Bx (Array.getElem?_eq_some_iff.1 h1).1 (fun e => ?_)).trans h1, OwI.own base (v, pickU s) X Y row h2 hg (fun r e => (hr r e).2)⟩
  obtain ⟨o, ho, hc⟩ := (hr Bx e.symm).2
  rw [h1] at ho
  cases ho
  cases hc
set_option maxRecDepth 100000 in
theorem OwI.box {w : World} {base : Nat} {v : Value} {l : List Int} (h : OwI w base v l) (Bx : Nat) (hB : Bx < base) (u : Value) : OwI (w.setCell ⟨Bx, 0, none⟩ u) base v l := by
  refine ⟨h.1, ?_⟩
  rcases h.2 with h0 | ⟨g, cap, cur, e, hb, hgg, h2, h3, h4, h5⟩
  · exact .inl h0
  · exact .inr ⟨g, cap, cur, e, hb, (Below.heap_setCell w ⟨Bx, 0, none⟩ u g (by simp; omega)).trans hgg, h2, h3, h4, h5⟩
set_option maxRecDepth 100000 in
theorem OwI.keeps {w w' : World} {base : Nat} {v : Value} {l : List Int} (h : OwI w base v l) (hg : w.grownBy w' v.ownBlock) : KeepsOthers w w' := by
  refine KeepsOthers.of_grownBy hg (fun j o e ho => ?_)
  rcases h.2 with ⟨rfl, _⟩ | ⟨g, cap, cur, rfl, hb, hgg, _⟩
  · cases e
  · obtain rfl : g = j := by simpa [Value.ownBlock] using e
    rw [hgg] at ho
    cases ho
    rfl
set_option maxRecDepth 100000 in
theorem RdI.kept {w w' : World} {B : Nat} {A : Option Addr} {l : List Int} (h : RdI w B A l) {row : Option Nat} (hg : w.grownBy w' row) (hrow : ∀ r, row = some r → ∃ o : Obj, w.heap[r]? = some o ∧ o.isCells = false) : RdI w' B A l := fun h0 => by
  obtain ⟨b, o, e, hb, hc⟩ := h h0
  exact ⟨b, o, e, hb, fun j hj => cell_kept (hc j hj) hg hrow⟩
set_option maxRecDepth 100000 in
theorem KpB.grown {B Bs : Nat} {X Y Z : World} (h : KpB B Bs X Y) {row : Option Nat} (hg : Y.grownBy Z row) (hB : B ≤ Y.heap.size) (hr : ∀ k, row = some k → B ≤ k ∧ k ≠ Bs) : KpB B Bs X Z :=
  ⟨h.1.grown hg hB (fun k e => (hr k e).1), fun hl => (hg.block Bs (Nat.lt_of_lt_of_le hl h.1.size) (fun e => (hr Bs e.symm).2 rfl)).trans (h.2 hl)⟩
set_option maxRecDepth 100000 in
theorem KpB.alloc {B Bs : Nat} {X Y : World} (h : KpB B Bs X Y) (hB : B ≤ Y.heap.size) (o : Obj) : KpB B Bs X (Y.alloc o) := h.grown (World.grownBy_alloc Y o none) hB (fun k e => by cases e)
set_option maxRecDepth 100000 in
theorem KpB.set {B Bs : Nat} {X Y : World} (h : KpB B Bs X Y) (Bx : Nat) (hB : B ≤ Bx) (hne : Bx ≠ Bs) (u : Value) : KpB B Bs X (Y.setCell ⟨Bx, 0, none⟩ u) :=
  ⟨h.1.setCell hB _, fun hl => (Below.heap_setCell Y ⟨Bx, 0, none⟩ u Bs (fun e => hne e.symm)).trans (h.2 hl)⟩

set_option maxRecDepth 100000 in
set_option maxHeartbeats 4000000 in
theorem bRead_main (n : Nat) (hn : 3 ≤ n) (A : Option Addr) (b : List UInt8) (c : Nat) (p : Nat) (W : World) (hl : b.length ≤ 90000) (hc : b.length ≤ c) (hcm : c ≤ 9223372036854775807) (hp : p ≤ b.length) (N : Nat) (C : List UInt8) (hC : C = b.drop p) (hN : takeF C = N) (hN0 : N ≠ 0) (hr : Rd W W.heap.size A b) :
    CallsIn Fence.wide n Tryd.prog 87 #[.slice A b.length c, .int .i64 (p : Nat)] W fun e W' => AnsI3 W' e (readC C (p : Nat)).1 (readC C (p : Nat)).1.length (readC C (p : Nat)).2.1 (readC C (p : Nat)).2.2 ∧ Below W.heap.size W W' := by
  have h1 : 1 ≤ n := by omega
  have hto := takeF_or C
  have hs := sizeB_or (hasF C 1)
  have hdl : C.length = b.length - p := by rw [hC]; exact List.length_drop
  have hN8 : N ≤ b.length - p := by omega
  have hN16 : N ≤ 16 := by omega
  have hN7 : 8 ≤ N := by omega
  have hcut := fun w (hb : Below W.heap.size W w) => ((hr.below hb (Nat.le_refl _)).more hb.size).cut p (b.length - p) c (by omega) hc
  have e9 : (b.drop p).take (b.length - p) = C := by rw [hC]; exact List.take_of_length_le (by rw [List.length_drop]; omega)
  rw [e9] at hcut
  have HRC := Lib.hid (readC_code (C := C) (p : Nat) (by omega))
  rw [hN] at HRC
  have hcp : ¬ c = p := by omega
  have HCT := Lib.hid (fun w (hb : Below W.heap.size W w) => (show Calls Tryd.prog 102 #[.slice (A.map (fun x => x.add p)) (b.length - p) (c - p)] w fun e W' => e = .returned (.tuple #[.slice (A.map (fun x => x.add p)) N (c - p), .int .i64 0]) ∧ ∃ k, W' = w.drewN k from by
    have h := hcut w hb
    rw [if_neg hcp, Nat.mul_one] at h
    have h3 := bTake_any (A.map (fun x => x.add p)) C (c - p) w (by omega) (by omega) (by omega) h
    rw [takeV_n hN hN0, hdl] at h3
    exact h3))
  have HRD := Lib.hid (fun w (hb : Below W.heap.size W w) => (show Rd w w.heap.size (A.map (fun x => x.add p)) (C.take N) from by
    have h := hcut w hb
    rw [if_neg hcp, Nat.mul_one] at h
    exact rd_takeG h N))
  have HTL := Lib.hid (show (C.take N).length = N by rw [List.length_take]; omega)
  have HOU := Lib.hid (show pickU (onesU (C.take N) (8 * N + 1)) = outU C (8 * N + 1) by rw [pick_ones, outU_take _ _ _ (Nat.le_refl _)])
  obtain ⟨R, hR⟩ : ∃ R, R = readC C (p : Nat) := ⟨_, rfl⟩
  have HANS := Lib.hid (hR.trans HRC.out)
  rw [← hR]
  clear hR HRC
  have HPW := Lib.hid (outU_pair C (8 * N + 1))
  have HLN := Lib.hid (outU_len C (8 * N + 1))
  have HI6 := Lib.hid (show I64s (outU C (8 * N + 1)) from fun z hz => by obtain ⟨m, rfl, h2, h3, _⟩ := (outU_mem _ _ z).1 hz; omega)
  generalize outU C (8 * N + 1) = L at *
  generalize C.take N = D at *
  have d1 : ¬ (p : Int) < 0 := by omega
  have d2 : ¬ (b.length : Int) < (p : Int) := by omega
  have d3 : (p : Int) ≤ (c : Int) := by omega
  have d4 : (p : Int) ≤ (b.length : Int) := by omega
  have d5 : (0 : Int) ≤ (p : Int) := Int.natCast_nonneg _
  have e3 : (b.length : Int) - (p : Int) = ((b.length - p : Nat) : Int) := by omega
  obtain ⟨m, hm⟩ : ∃ m, m = b.length - p := ⟨_, rfl⟩
  rw [← hm] at HCT e3
  have hmp : b.length - p = m := hm.symm
  generalize b.length = M at *
  clear hC hcut e9 hr hto hs hdl hN8 hm hN
  refine callsIn_of_wp_marks Tryd.func87 rfl trivial ?_ rfl
  simp only [Tryd.ntmps87, List.size_toArray, List.length_cons, List.length_nil, Nat.reduceAdd, Nat.reduceSub, Array.replicate_succ, Array.replicate_zero, List.push_toArray, List.append_toArray, List.nil_append, List.cons_append]
  gi_wp2_with (first
    | (refine ⟨trivial, ?_⟩; gi_at_call 102; refine (callsIn_wide.2 (HCT.out _ (Below.refl _ _))).mono ?_; rintro e w1 ⟨rfl, k1, rfl⟩)
    | (refine ⟨trivial, ?_⟩; gi_at_call 103; refine (ones_in (n - 1) _ _ _ _).mono ?_; rintro e w' ⟨rfl, rfl⟩))
  obtain ⟨A2, hA2⟩ : ∃ A2, A2 = Option.map (fun x => x.add p) A := ⟨_, rfl⟩
  rw [← hA2] at HRD ⊢
  clear hA2 HCT
  have hbx := (Below.refl W.heap.size (W.drewN k1)).alloc (Nat.le_refl _) (Obj.cells #[Value.slice none 0 0] 65)
  have hV0 : Below W.heap.size W (((W.drewN k1).alloc (Obj.cells #[Value.slice none 0 0] 65)).alloc (Obj.cells #[Value.slice A2 N (c - p)] 27)) :=
    ((below_drewN (Below.refl W.heap.size W) k1).alloc (Nat.le_refl _) _).alloc (by simp) _
  have hx1 := heap_alloc_new (W.drewN k1) (Obj.cells #[Value.slice none 0 0] 65)
  have hx2 := heap_alloc_new ((W.drewN k1).alloc (Obj.cells #[Value.slice none 0 0] 65)) (Obj.cells #[Value.slice A2 N (c - p)] 27)
  have hx3 := (Below.heap_alloc ((W.drewN k1).alloc (Obj.cells #[Value.slice none 0 0] 65)) (Obj.cells #[Value.slice A2 N (c - p)] 27) W.heap.size (by simp)).trans hx1
  have hsz : (((W.drewN k1).alloc (Obj.cells #[Value.slice none 0 0] 65)).alloc (Obj.cells #[Value.slice A2 N (c - p)] 27)).heap.size = W.heap.size + 2 := by simp
  rw [show ((W.drewN k1).alloc (Obj.cells #[Value.slice none 0 0] 65)).heap.size = W.heap.size + 1 by simp] at hx2
  obtain ⟨V, hV⟩ : ∃ V, V = ((W.drewN k1).alloc (Obj.cells #[Value.slice none 0 0] 65)).alloc (Obj.cells #[Value.slice A2 N (c - p)] 27) := ⟨_, rfl⟩
  rw [← hV] at hV0 hx2 hx3 hsz ⊢
  clear hV hx1 hbx
  have hcN := cG1 hx2
  have HV0 := Lib.hid hV0
  have hRV := HRD.out W (Below.refl _ _)
  have HSZ := Lib.hid hsz
  refine wpIn_rangeFunc_ownH rfl h1 (gf := 110) (lb := #[.pointer (some ⟨W.heap.size + 1, 0, none⟩)]) rfl trivial (enters_of Tryd.func110 (by kernel_rfl) rfl)
    (ones_stops (n - 1) (by omega) (W.heap.size + 1) N (c - p) A2 D HTL.out hN16 W V (by omega) (by omega) hV0 hcN hRV) (fun h k => KpB.trans h k) (KpB.put (by omega) (by omega)) (Below.refl _ _) (fun _ => rfl)
    (fun pre W1 => RdI9 W.heap.size (W.heap.size + 2) pre W1 ∧ KpB W.heap.size (W.heap.size + 1) V W1)
    (fun _ _ _ => False)
    (OwnFrom.and (RdI9.own _ _ _) (KpB.own _ _ V (by omega) (by omega)))
    (fun _ => ownFrom_pure _ _)
    ⟨⟨_, hx3, OwI.nil⟩, KpB.refl _ _ _⟩
    (fun x a' _ => a' = { tmps := #[Value.slice A M c, Value.int IntKind.i64 (p : Nat), undef, undef, Value.slice none 0 0, Value.int IntKind.i64 0, Value.int IntKind.i64 0, Value.slice A2 N (c - p), Value.int IntKind.i64 0, Value.pointer (some { block := W.heap.size, off := 0 }), Value.int IntKind.i64 (x : Nat), Value.int IntKind.i64 (p : Nat), Value.bool false, Value.bool false, Value.int IntKind.i64 (p : Nat), Value.slice A M c, Value.int IntKind.i64 (M : Nat), Value.bool false, Value.bool false, Value.tuple #[Value.slice A2 N (c - p), Value.int IntKind.i64 0], Value.slice A M c, Value.int IntKind.i64 (p : Nat), Value.slice A2 m (c - p), Value.tuple #[Value.slice A2 N (c - p), Value.int IntKind.i64 0], Value.slice A2 N (c - p), Value.int IntKind.i64 0, Value.int IntKind.i64 0, Value.bool false, undef, Value.slice A2 N (c - p), Value.func (Fn.func 110) #[] #[Value.pointer (some { block := W.heap.size + 1, off := 0 })], Value.int IntKind.i64 (x : Nat), undef, undef, undef, undef, undef, undef, undef, undef, undef, undef, undef, undef, undef, undef, undef, undef, undef, undef, undef, undef, undef], defers := [] })
    (fun x a' => ownFrom_pure _ _)
    ?assign ?body ?done ?stop
  case assign =>
    rintro l1 pre x W1 K1 hI hK
    gi_wp2
    exact hK _ _ (KeepsFrom.refl _ _) (KpB.refl _ _ _) hI rfl
  case body =>
    rintro l1 pre x a' W1 hl ⟨r, hr⟩ ⟨⟨v, hbox, hown⟩, hkp⟩ rfl hlt
    have HO := Lib.hid hown
    have HKP := Lib.hid hkp
    have cB := cG1 hbox
    have fB := fG hbox 0
    have HBX := Lib.hid hbox
    have hs1 := hkp.1.size
    clear hown hkp hbox
    by_cases hx : x = 1
    · subst hx
      have HP := Lib.hid (pickU_snoc_1 pre)
      gi_wp2
      exact ⟨KeepsFrom.refl _ _, KpB.refl _ _ _, ⟨v, HBX.out, by rw [HP.out]; exact HO.out⟩, HKP.out⟩
    · have HP := Lib.hid (pickU_snoc pre x hx)
      have hxi : ((x : Int) != 1) = true := by rw [bne_iff_ne]; omega
      have hpl := pickU_len pre
      obtain ⟨A3, c3, rfl, h31, h32, hr3⟩ := HO.out.form
      have HLT := Lib.hid (fun k e => (World.ownsRow.lt HO.out k e).1)
      clear hx h31 h32 hr3
      gi_wp2_with (gi_at_builtin; refine wpListIn_appI _ rfl (.tmp 34) (.tmp 36) rfl (W.heap.size + 2) _ (pickU pre) [(x : Int)] rfl (by exact HO.out.alloc _) (some ⟨W1.heap.size, 0, none⟩) 1 1 (W1.heap.size + 1) rfl rfl (by exact rdi_new1 W1 x) (by show (pickU pre).length + 1 ≤ _; omega) (by rw [World.size_alloc]; have := HSZ.out; omega) ?_; intro v2 w2 hown2 hg2; have HG2 := Lib.hid hg2; have HOW2 := Lib.hid hown2; obtain ⟨A4, c4, rfl, h41, h42, hr4⟩ := hown2.form; have hb2 := (hg2.block W.heap.size (by rw [World.size_alloc]; have := HSZ.out; omega) (fun e => by have := HLT.out _ e.symm; omega)).trans ((Below.heap_alloc W1 _ W.heap.size (by have := HSZ.out; omega)).trans HBX.out); have HBX2 := Lib.hid hb2; have cB2 := cG1 hb2; have fB2 := fG hb2 0; clear hown2 hg2 h41 h42 hr4 hb2)
      have hsz := HSZ.out
      refine ⟨(((KeepsOthers.alloc W1 _).trans ((HO.out.alloc _).keeps HG2.out)).trans (KeepsOthers.setCell _ _ _)).from _, ?_, ⟨.slice A4 ((pickU pre).length + 1) c4, ?_, ?_⟩, ?_⟩
      · exact (((KpB.refl _ _ W1).alloc (by omega) _).grown HG2.out (by rw [World.size_alloc]; omega) (fun k e => by have := HLT.out k e; omega)).set _ (Nat.le_refl _) (by omega) _
      · exact heap_setCell_same _ W.heap.size 0 _ _ _ HBX2.out
      · rw [HP.out]
        have h := HOW2.out.box W.heap.size (by omega) (.slice A4 ((pickU pre).length + 1) c4)
        rw [List.length_append] at h
        exact h
      · exact ((HKP.out.alloc (by omega) _).grown HG2.out (by rw [World.size_alloc]; omega) (fun k e => by have := HLT.out k e; omega)).set _ (Nat.le_refl _) (by omega) _
  case done =>
    rintro D1 ys W1 hD hys ⟨⟨v, hbox, hown⟩, hkp⟩ hK
    have hL : pickU ys = L := by rw [hys]; exact HOU.out
    rw [hL] at hown
    obtain ⟨A3, c3, rfl, h31, h32, hr3⟩ := hown.form
    have HR3 := Lib.hid hr3
    have HKP := Lib.hid hkp
    have cB := cG1 hbox
    have HBX := Lib.hid hbox
    have hs1 := hkp.1.size
    have HB1 := Lib.hid (HV0.out.trans hkp.1)
    have hsz := HSZ.out
    have hLN := HLN.out
    have hBX : W.heap.size ≤ W1.heap.size := by omega
    have CR := Lib.hid (bRight_any A3 L c3 W1 (by omega) HI6.out hr3)
    have CS := Lib.hid (fun w (h : Below W1.heap.size W1 w) => bSize_any A3 L c3 w (by omega) (hr3.go h))
    have HKK := Lib.hid (fun w (h : Below W1.heap.size W1 w) => (show w.heap[D1]? = some (.deferred (some [])) from oldG hK h (Nat.le_refl _)))
    have HCC := Lib.hid (fun w (h : Below W1.heap.size W1 w) => cG1 (oldG HBX.out h (Nat.le_refl _)))
    clear hown hr3 hkp hbox hys hL HRD hRV hK
    by_cases hR : RightP L
    · rw [decide_eq_true hR] at CR
      rw [size_wide hR] at CS
      by_cases hS : sizeB (wideF L) = N
      · rw [if_pos ⟨hR, hS⟩] at HANS
        rw [hS] at CS
        have hNN : ((N : Int) != (N : Int)) = false := by simp
        clear hS hR
        gi_wp2_with (first
          | (refine ⟨trivial, ?_⟩; gi_at_call 70; refine (callsIn_wide.2 CR.out).mono ?_; rintro e w2 ⟨rfl, hb2⟩; have HB2 := Lib.hid hb2; have cB2 := HCC.out _ hb2; clear hb2)
          | (refine ⟨trivial, ?_⟩; gi_at_call 71; refine (callsIn_wide.2 (CS.out _ HB2.out)).mono ?_; rintro e w3 ⟨rfl, rfl⟩))
        have hDn : W.heap.size ≤ D1 := by omega
        have hKD := HKK.out _ HB2.out
        refine ⟨by simp, .inl ⟨_, _, rfl, run_takeDeferred hKD, ?_⟩⟩
        refine ⟨.tuple #[.slice A3 L.length c3, .int .i64 ((p : Int) + (N : Nat)), .int .i64 0], ?_, ?_, (HB1.out.trans (HB2.out.mono hBX)).trans (belowK_b (w := W) (Nat.le_refl _) _ D1 _ _ hDn hKD rfl rfl)⟩
        · simp [results, Tryd.f87, go_sem]
        · rw [HANS.out]
          refine ⟨A3, c3, rfl, h31, h32, ?_⟩
          exact ((HR3.out.go HB2.out).kept (grownBy_putObj' _ D1 (.deferred none)) (fun r e => by cases e; exact ⟨_, hKD, rfl⟩)).more (by simp [World.putObj])
      · rw [if_neg (fun h => hS h.2)] at HANS
        obtain ⟨Z, hZ⟩ : ∃ Z, Z = sizeB (wideF L) := ⟨_, rfl⟩
        rw [← hZ] at hS CS
        have hNN : ((Z : Int) != (N : Int)) = true := by rw [bne_iff_ne]; omega
        clear hS hR hZ
        gi_wp2_with (first
          | (refine ⟨trivial, ?_⟩; gi_at_call 70; refine (callsIn_wide.2 CR.out).mono ?_; rintro e w2 ⟨rfl, hb2⟩; have HB2 := Lib.hid hb2; have cB2 := HCC.out _ hb2; clear hb2)
          | (refine ⟨trivial, ?_⟩; gi_at_call 71; refine (callsIn_wide.2 (CS.out _ HB2.out)).mono ?_; rintro e w3 ⟨rfl, rfl⟩))
        have hDn : W.heap.size ≤ D1 := by omega
        have hKD := HKK.out _ HB2.out
        refine ⟨by simp, .inl ⟨_, _, rfl, run_takeDeferred hKD, ?_⟩⟩
        refine ⟨.tuple #[.slice none 0 0, .int .i64 0, .int .i64 2], ?_, ?_, (HB1.out.trans (HB2.out.mono hBX)).trans (belowK_b (w := W) (Nat.le_refl _) _ D1 _ _ hDn hKD rfl rfl)⟩
        · simp [results, Tryd.f87, go_sem]
        · rw [HANS.out]; exact AnsI3.none
    · rw [if_neg (fun h => hR h.1)] at HANS
      rw [decide_eq_false hR] at CR
      clear hR CS
      gi_wp2_with (first
        | (refine ⟨trivial, ?_⟩; gi_at_call 70; refine (callsIn_wide.2 CR.out).mono ?_; rintro e w2 ⟨rfl, hb2⟩; have HB2 := Lib.hid hb2; have cB2 := HCC.out _ hb2; clear hb2))
      refine ⟨trivial, ?_⟩
      gi_wp2
      have hDn : W.heap.size ≤ D1 := by omega
      have hKD := HKK.out _ HB2.out
      refine ⟨by simp, .inl ⟨_, _, rfl, run_takeDeferred hKD, ?_⟩⟩
      refine ⟨.tuple #[.slice none 0 0, .int .i64 0, .int .i64 2], ?_, ?_, (HB1.out.trans (HB2.out.mono hBX)).trans (belowK_b (w := W) (Nat.le_refl _) _ D1 _ _ hDn hKD rfl rfl)⟩
      · simp [results, Tryd.f87, go_sem]
      · rw [HANS.out]; exact AnsI3.none
  case stop =>
    rintro D1 cc pre W1 hD hpre hF hK
    exact hF.elim
set_option maxRecDepth 100000 in
set_option maxHeartbeats 1000000 in
theorem bRead_any (A : Option Addr) (b : List UInt8) (c : Nat) (at_ : Int) (W : World) (hl : b.length ≤ 90000) (hc : b.length ≤ c) (hcm : c ≤ 9223372036854775807) (_ : -9223372036854775808 ≤ at_ ∧ at_ ≤ 9223372036854775807) (hr : Rd W W.heap.size A b) :
    Calls Tryd.prog 87 #[.slice A b.length c, .int .i64 at_] W fun e W' => AnsI3 W' e (readM b at_).1 (readM b at_).1.length (readM b at_).2.1 (readM b at_).2.2 ∧ Below W.heap.size W W' := by
  by_cases ha : at_ < 0 ∨ (b.length : Int) < at_
  · have he : readM b at_ = ([], 0, 1) := by unfold readM; rw [if_pos ha]
    rw [he]
    clear hr he
    generalize b.length = M at *
    by_cases h1 : at_ < 0
    · go_enter Tryd.func87, Tryd.ntmps87
      go_wp2
      go_ret3
      exact ⟨AnsI3.none, Below.refl _ _⟩
    · have h2 : (M : Int) < at_ := by omega
      clear ha
      go_enter Tryd.func87, Tryd.ntmps87
      go_wp2
      go_ret3
      exact ⟨AnsI3.none, Below.refl _ _⟩
  obtain ⟨p, rfl⟩ := Int.eq_ofNat_of_zero_le (show 0 ≤ at_ by omega)
  have hp : p ≤ b.length := by omega
  have HRM : readM b (p : Int) = readC (b.drop p) (p : Int) := by unfold readM; rw [if_neg ha]; rfl
  rw [HRM]
  by_cases hN : takeF (b.drop p) = 0
  · rw [readC_short _ hN]
    have d1 : ¬ (p : Int) < 0 := by omega
    have d2 : ¬ (b.length : Int) < (p : Int) := by omega
    have d3 : (p : Int) ≤ (c : Int) := by omega
    have d4 : (p : Int) ≤ (b.length : Int) := by omega
    have d5 : (0 : Int) ≤ (p : Int) := Int.natCast_nonneg _
    have hcut := hr.cut p (b.length - p) c (by omega) hc
    have e9 : (b.drop p).take (b.length - p) = b.drop p := List.take_of_length_le (by rw [List.length_drop]; omega)
    have hdl : (b.drop p).length = b.length - p := List.length_drop
    rw [e9, Nat.mul_one] at hcut
    have HCT := Lib.hid (fun h1 h2 => bTake_any (if c = p then A else A.map (fun x => x.add p)) (b.drop p) (c - p) W h1 (by omega) h2 hcut)
    rw [takeV_0 hN, hdl] at HCT
    have HC2 := Lib.hid (HCT.out (by omega) (by omega))
    have e3 : (b.length : Int) - (p : Int) = ((b.length - p : Nat) : Int) := by omega
    obtain ⟨m, hm⟩ : ∃ m, m = b.length - p := ⟨_, rfl⟩
    rw [← hm] at HC2 e3
    have hmp : b.length - p = m := hm.symm
    clear hcut e9 hdl HCT hr HRM hN hm
    generalize b.length = M at *
    by_cases hcp : c = p
    · rw [if_pos hcp] at HC2
      subst hcp
      rw [Nat.sub_self] at HC2
      go_enter Tryd.func87, Tryd.ntmps87
      go_wp2_with fail
      refine HC2.out.mono ?_
      rintro e w1 ⟨rfl, k, rfl⟩
      clear HC2
      go_wp2
      go_ret3
      exact ⟨AnsI3.none, below_drewN (Below.refl _ _) k⟩
    · rw [if_neg hcp] at HC2
      go_enter Tryd.func87, Tryd.ntmps87
      go_wp2_with fail
      refine HC2.out.mono ?_
      rintro e w1 ⟨rfl, k, rfl⟩
      clear HC2
      go_wp2
      go_ret3
      exact ⟨AnsI3.none, below_drewN (Below.refl _ _) k⟩
  · exact (callsIn_wide (n := 3)).1 (bRead_main 3 (by omega) A b c p W hl hc hcm hp _ (b.drop p) rfl rfl hN hr)
end Go.Proofs.YtpfjecjfooefoaaDoor
