
/- field.shapeOf. -/
import Derived.Test.YtpfjecjfooefoaaDoorJ29
import Derived.Test.YtpfjecjfooefoaaDoorJ13
namespace Go.Proofs.YtpfjecjfooefoaaDoor
open Go.RowKit

set_option maxRecDepth 100000 in
theorem loadS {ops : Array Oper} {rest : List Oper} {o : Oper} {a : Act} {Q : Exit → Act → World → Prop} (W : World) (x : Operand) (g : Nat) (p q r : Value)
    (hg : W.heap[g]? = some (.cells #[p, q, r] 115 (0, 0))) (hgd : o.guard = none) (ho : o.op = .load 115 x) (hx : a.eval x = .pointer (some ⟨g, 0, none⟩))
    (h : wpList Tryd.prog ops Q rest (a.put o.dst (.agg #[p, q, r])) W) : wpList Tryd.prog ops Q (o :: rest) a W :=
  wpList_load_row hgd 115 x ho g hx 115 #[p, q, r] (0, 0) _ hg Tryd.underlying115 rfl (by kernel_rfl) h
set_option maxRecDepth 100000 in
theorem storeS {ops : Array Oper} {rest : List Oper} {o : Oper} {a : Act} {Q : Exit → Act → World → Prop} (W : World) (x y : Operand) (g : Nat) (p q r : Value) (old : Array Value)
    (hg : W.heap[g]? = some (.cells old 115 (0, 0))) (hold : old.size = 3) (h1 : (#[p, q, r] : Array Value).all (·.oneCell') = true) (hgd : o.guard = none) (ho : o.op = .store 115 x y) (hx : a.eval x = .pointer (some ⟨g, 0, none⟩)) (hy : a.eval y = .agg #[p, q, r])
    (h : wpList Tryd.prog ops Q rest (a.put o.dst undef) (W.setRow g #[p, q, r])) : wpList Tryd.prog ops Q (o :: rest) a W :=
  wpList_store_row hgd 115 x y ho g #[p, q, r] hx hy 115 old hg (by kernel_rfl) hold h1 h
set_option maxRecDepth 100000 in
theorem retS {fn : Func} {p : Tmp} (h : fn.results = #[.cell p 115]) (tmps : Array Value) (W : World) (g : Nat) (x y z : Value) (hp : tmps.getD p undef = .pointer (some ⟨g, 0, none⟩)) (hg : W.heap[g]? = some (.cells #[x, y, z] 115 (0, 0))) :
    (results fn tmps).run Tryd.prog W = .ok (.agg #[x, y, z]) W :=
  results_cell_row h tmps W g 115 #[x, y, z] (0, 0) _ hp hg Tryd.underlying115 rfl (by kernel_rfl)
set_option maxRecDepth 100000 in
theorem cellsS {w : World} {g : Nat} {x y z : Value} {t : TypeId} {fr : Nat × Nat} (h : w.heap[g]? = some (.cells #[x, y, z] t fr)) : w.cell? ⟨g, 0, none⟩ = some x ∧ w.cell? ⟨g, 1, none⟩ = some y ∧ w.cell? ⟨g, 2, none⟩ = some z :=
  have hcl : ∀ j v, (#[x, y, z] : Array Value)[j]? = some v → w.cell? ⟨g, j, none⟩ = some v := fun _j _v h' => (cell_of_row _ _ _ _ _ _ h).trans h'
  ⟨hcl 0 _ rfl, hcl 1 _ rfl, hcl 2 _ rfl⟩
set_option maxRecDepth 100000 in
theorem frozenS {w : World} {g : Nat} {t : TypeId} {c : Array Value} (h : w.heap[g]? = some (.cells c t (0, 0))) : w.frozen? ⟨g, 0, none⟩ = false ∧ w.frozen? ⟨g, 1, none⟩ = false ∧ w.frozen? ⟨g, 2, none⟩ = false :=
  have hf := fun j => frozen_of_row w g j _ _ h
  ⟨hf 0, hf 1, hf 2⟩
set_option maxRecDepth 100000 in
theorem setS0 {w : World} {g : Nat} {t : TypeId} {a b c : Value} (x : Value) (h : w.heap[g]? = some (.cells #[a, b, c] t (0, 0))) : (w.setCell ⟨g, 0, none⟩ x).heap[g]? = some (.cells #[x, b, c] t (0, 0)) := by
  rw [heap_setCell_same w g 0 _ t x h]; simp only [List.setIfInBounds_toArray, List.set_cons_zero]
set_option maxRecDepth 100000 in
theorem setS1 {w : World} {g : Nat} {t : TypeId} {a b c : Value} (x : Value) (h : w.heap[g]? = some (.cells #[a, b, c] t (0, 0))) : (w.setCell ⟨g, 1, none⟩ x).heap[g]? = some (.cells #[a, x, c] t (0, 0)) := by
  rw [heap_setCell_same w g 1 _ t x h]; simp only [List.setIfInBounds_toArray, List.set_cons_zero, List.set_cons_succ]
set_option maxRecDepth 100000 in
theorem setS2 {w : World} {g : Nat} {t : TypeId} {a b c : Value} (x : Value) (h : w.heap[g]? = some (.cells #[a, b, c] t (0, 0))) : (w.setCell ⟨g, 2, none⟩ x).heap[g]? = some (.cells #[a, b, x] t (0, 0)) := by
  rw [heap_setCell_same w g 2 _ t x h]; simp only [List.setIfInBounds_toArray, List.set_cons_zero, List.set_cons_succ]
set_option maxRecDepth 100000 in
theorem setRow_id (w : World) (g : Nat) (c : Array Value) (t : TypeId) (fr : Nat × Nat) (h : w.heap[g]? = some (.cells c t fr)) : w.setRow g c = w := by
  obtain ⟨hg, he⟩ := Array.getElem?_eq_some_iff.1 h
  have e : (w.setRow g c).heap = w.heap := by
    apply Array.ext_getElem?
    intro i
    by_cases hi : i = g
    · subst hi; rw [setRow_heap _ _ _ _ _ _ h, h]
    · exact setRow_other _ _ _ _ hi
  unfold World.setRow at e ⊢
  simpa using congrArg (fun x => { w with heap := x }) e

set_option maxRecDepth 100000 in
theorem Below.setRow5 {B : Nat} {a w : World} (h : Below B a w) {g : Nat} (hg : B ≤ g) (cs : Array Value) : Below B a (w.setRow g cs) :=
  h.trans ⟨rfl, rfl, rfl, by simp [World.setRow], fun k hk => setRow_other w g k cs (by omega)⟩
def zS : Obj := .cells #[.int .i64 0, .bool false, .nilFunc] 115
set_option maxRecDepth 100000 in
theorem shape1 (W : World) : Calls Tryd.prog 76 #[.int .i64 1] W fun e W' => (∃ g, e = .returned (.agg #[.int .i64 0, .bool true, mayV g]) ∧ MayC W' g 48 57) ∧ Below W.heap.size W W' := by
  have CB := Lib.hid (fun w => between_any 48 57 w)
  obtain ⟨V, hV⟩ : ∃ V, V = (W.alloc (.cells #[.int .i64 0, .bool false, .nilFunc] 115)).alloc (.cells #[.int .i64 0, .bool false, .nilFunc] 115) := ⟨_, rfl⟩
  have h1 := heap_alloc_new W (.cells #[.int .i64 0, .bool false, .nilFunc] 115)
  have h2 := heap_alloc_new (W.alloc (.cells #[.int .i64 0, .bool false, .nilFunc] 115)) (.cells #[.int .i64 0, .bool false, .nilFunc] 115)
  have h3 := (heap_alloc_old (W.alloc (.cells #[.int .i64 0, .bool false, .nilFunc] 115)) (.cells #[.int .i64 0, .bool false, .nilFunc] 115) (show W.heap.size < (W.alloc (.cells #[.int .i64 0, .bool false, .nilFunc] 115)).heap.size by rw [World.size_alloc]; omega)).trans h1
  rw [World.size_alloc] at h2
  have hb := ((Below.refl W.heap.size W).alloc (Nat.le_refl _) (.cells #[.int .i64 0, .bool false, .nilFunc] 115)).alloc (by rw [World.size_alloc]; omega) (.cells #[.int .i64 0, .bool false, .nilFunc] 115)
  rw [← hV] at h2 h3 hb
  have HV := Lib.hid hV
  have HR := Lib.hid h3
  have HS := Lib.hid h2
  have HB := Lib.hid hb
  clear hV h1 h2 h3 hb
  go_enter Tryd.func76, Tryd.ntmps76
  go_wp2_with (with_reducible refine at_list5 ?_; refine storeS _ (.tmp 3) (.tmp 4) (W.heap.size + 1) (.int .i64 0) (.bool false) .nilFunc #[.int .i64 0, .bool false, .nilFunc] (by rw [← HV.out]; exact HS.out) rfl (by simp [Value.oneCell']) rfl rfl rfl rfl ?_; rw [← HV.out, setRow_id V (W.heap.size + 1) _ _ _ HS.out]; clear HV; obtain ⟨x0, x1, x2⟩ := cellsS HS.out; obtain ⟨z0, z1, z2⟩ := frozenS HS.out)

  obtain ⟨r, hr⟩ : ∃ r, r = W.heap.size := ⟨_, rfl⟩
  rw [← hr] at HR HS HB ⊢
  have HG := Lib.hid hr
  clear hr
  have hs1 : (V.setCell ⟨r + 1, 1, none⟩ (.bool true)).heap[r + 1]? = some (.cells #[.int .i64 0, .bool true, .nilFunc] 115 (0, 0)) := (setS1 (.bool true) HS.out)
  have hb1 : Below r W (V.setCell ⟨r + 1, 1, none⟩ (.bool true)) := (HB.out.setCell (p := ⟨r + 1, 1, none⟩) (Nat.le_succ r) (.bool true))
  have hr1 : (V.setCell ⟨r + 1, 1, none⟩ (.bool true)).heap[r]? = some (.cells #[.int .i64 0, .bool false, .nilFunc] 115 (0, 0)) := ((heap_setCell_other _ _ _ _ (by show r ≠ r + 1; omega)).trans HR.out)
  clear HS HB HR
  generalize (V.setCell ⟨r + 1, 1, none⟩ (.bool true)) = V1 at *
  have HS := Lib.hid hs1
  have HB := Lib.hid hb1
  have HR := Lib.hid hr1
  clear hs1 hb1 hr1
  refine (CB.out _).mono ?_
  rintro e w1 ⟨⟨rfl, hm⟩, hb⟩
  have nHS := Lib.hid (old5 HS.out hb (Nat.le_refl _))
  have nHR := Lib.hid (old5 HR.out hb (Nat.le_refl _))
  have nHB := Lib.hid (bel5 HB.out hb (by rw [HG.out]; exact HB.out.size))
  have hs := (Array.getElem?_eq_some_iff.1 HS.out).1
  have HM := Lib.hid hm
  have HE := Lib.hid (show V1.heap.size ≠ r + 1 ∧ V1.heap.size + 1 ≠ r + 1 ∧ V1.heap.size ≠ r ∧ V1.heap.size + 1 ≠ r by omega)
  clear hb hs hm HS HB HR CB
  generalize V1.heap.size = gm at *
  (try clear V1)
  unfold mayV
  obtain ⟨x0, x1, x2⟩ := cellsS nHS.out
  obtain ⟨z0, z1, z2⟩ := frozenS nHS.out
  have hst : (store ⟨r + 1, 2, none⟩ (.func (.func 108) #[] #[.pointer (some ⟨gm, 0, none⟩), .pointer (some ⟨gm + 1, 0, none⟩)])).run Tryd.prog w1 = .ok () (w1.setCell ⟨r + 1, 2, none⟩ (.func (.func 108) #[] #[.pointer (some ⟨gm, 0, none⟩), .pointer (some ⟨gm + 1, 0, none⟩)])) := by
    rw [run_store _ _ _ _ _ rfl, x2, z2]; rfl
  have HS := Lib.hid (setS2 (.func (.func 108) #[] #[.pointer (some ⟨gm, 0, none⟩), .pointer (some ⟨gm + 1, 0, none⟩)]) nHS.out)
  have HR := Lib.hid (show (w1.setCell ⟨r + 1, 2, none⟩ (.func (.func 108) #[] #[.pointer (some ⟨gm, 0, none⟩), .pointer (some ⟨gm + 1, 0, none⟩)])).heap[r]? = some (.cells #[.int .i64 0, .bool false, .nilFunc] 115 (0, 0)) from (heap_setCell_other _ _ _ _ (show r ≠ r + 1 by omega)).trans nHR.out)
  clear nHR
  go_wp2_with (with_reducible refine at_list5 ?_; first | (refine loadS (w1.setCell ⟨r + 1, 2, none⟩ (.func (.func 108) #[] #[.pointer (some ⟨gm, 0, none⟩), .pointer (some ⟨gm + 1, 0, none⟩)])) (.tmp 3) (r + 1) (.int .i64 0) (.bool true) (.func (.func 108) #[] #[.pointer (some ⟨gm, 0, none⟩), .pointer (some ⟨gm + 1, 0, none⟩)]) HS.out rfl rfl rfl ?_) | (refine storeS (w1.setCell ⟨r + 1, 2, none⟩ (.func (.func 108) #[] #[.pointer (some ⟨gm, 0, none⟩), .pointer (some ⟨gm + 1, 0, none⟩)])) (.tmp 2) (.tmp 33) r (.int .i64 0) (.bool true) (.func (.func 108) #[] #[.pointer (some ⟨gm, 0, none⟩), .pointer (some ⟨gm + 1, 0, none⟩)]) _ HR.out rfl (by simp [Value.oneCell']) rfl rfl rfl rfl ?_))
  (try simp only [Exit.inBlock, Exit.then])
  refine bodyPost_ret (retS rfl _ _ r _ _ _ rfl (setRow_heap _ _ _ _ _ _ HR.out)) rfl ?_
  obtain ⟨e1, e2, e3, e4⟩ := HE.out
  refine ⟨⟨gm, rfl, ?_⟩, ?_⟩
  · exact ⟨(setRow_other _ _ _ _ e3).trans ((heap_setCell_other _ _ _ _ e1).trans HM.out.1), (setRow_other _ _ _ _ e4).trans ((heap_setCell_other _ _ _ _ e2).trans HM.out.2)⟩
  · rw [← HG.out]
    exact Below.setRow5 (nHB.out.setCell (p := ⟨r + 1, 2, none⟩) (Nat.le_succ r) (.func (.func 108) #[] #[.pointer (some ⟨gm, 0, none⟩), .pointer (some ⟨gm + 1, 0, none⟩)])) (Nat.le_refl _) _
set_option maxRecDepth 100000 in
theorem shape2 (W : World) : Calls Tryd.prog 76 #[.int .i64 2] W fun e W' => (∃ g, e = .returned (.agg #[.int .i64 2, .bool true, mayV g]) ∧ MayC W' g 48 57) ∧ Below W.heap.size W W' := by
  have CB := Lib.hid (fun w => between_any 48 57 w)
  obtain ⟨V, hV⟩ : ∃ V, V = (W.alloc (.cells #[.int .i64 0, .bool false, .nilFunc] 115)).alloc (.cells #[.int .i64 0, .bool false, .nilFunc] 115) := ⟨_, rfl⟩
  have h1 := heap_alloc_new W (.cells #[.int .i64 0, .bool false, .nilFunc] 115)
  have h2 := heap_alloc_new (W.alloc (.cells #[.int .i64 0, .bool false, .nilFunc] 115)) (.cells #[.int .i64 0, .bool false, .nilFunc] 115)
  have h3 := (heap_alloc_old (W.alloc (.cells #[.int .i64 0, .bool false, .nilFunc] 115)) (.cells #[.int .i64 0, .bool false, .nilFunc] 115) (show W.heap.size < (W.alloc (.cells #[.int .i64 0, .bool false, .nilFunc] 115)).heap.size by rw [World.size_alloc]; omega)).trans h1
  rw [World.size_alloc] at h2
  have hb := ((Below.refl W.heap.size W).alloc (Nat.le_refl _) (.cells #[.int .i64 0, .bool false, .nilFunc] 115)).alloc (by rw [World.size_alloc]; omega) (.cells #[.int .i64 0, .bool false, .nilFunc] 115)
  rw [← hV] at h2 h3 hb
  have HV := Lib.hid hV
  have HR := Lib.hid h3
  have HS := Lib.hid h2
  have HB := Lib.hid hb
  clear hV h1 h2 h3 hb
  go_enter Tryd.func76, Tryd.ntmps76
  go_wp2_with (with_reducible refine at_list5 ?_; refine storeS _ (.tmp 3) (.tmp 4) (W.heap.size + 1) (.int .i64 0) (.bool false) .nilFunc #[.int .i64 0, .bool false, .nilFunc] (by rw [← HV.out]; exact HS.out) rfl (by simp [Value.oneCell']) rfl rfl rfl rfl ?_; rw [← HV.out, setRow_id V (W.heap.size + 1) _ _ _ HS.out]; clear HV; obtain ⟨x0, x1, x2⟩ := cellsS HS.out; obtain ⟨z0, z1, z2⟩ := frozenS HS.out)

  obtain ⟨r, hr⟩ : ∃ r, r = W.heap.size := ⟨_, rfl⟩
  rw [← hr] at HR HS HB ⊢
  have HG := Lib.hid hr
  clear hr
  have hs1 : ((V.setCell ⟨r + 1, 0, none⟩ (.int .i64 2)).setCell ⟨r + 1, 1, none⟩ (.bool true)).heap[r + 1]? = some (.cells #[.int .i64 2, .bool true, .nilFunc] 115 (0, 0)) := (setS1 (.bool true) (setS0 (.int .i64 2) HS.out))
  have hb1 : Below r W ((V.setCell ⟨r + 1, 0, none⟩ (.int .i64 2)).setCell ⟨r + 1, 1, none⟩ (.bool true)) := ((HB.out.setCell (p := ⟨r + 1, 0, none⟩) (Nat.le_succ r) (.int .i64 2)).setCell (p := ⟨r + 1, 1, none⟩) (Nat.le_succ r) (.bool true))
  have hr1 : ((V.setCell ⟨r + 1, 0, none⟩ (.int .i64 2)).setCell ⟨r + 1, 1, none⟩ (.bool true)).heap[r]? = some (.cells #[.int .i64 0, .bool false, .nilFunc] 115 (0, 0)) := ((heap_setCell_other _ _ _ _ (by show r ≠ r + 1; omega)).trans ((heap_setCell_other _ _ _ _ (by show r ≠ r + 1; omega)).trans HR.out))
  clear HS HB HR
  generalize ((V.setCell ⟨r + 1, 0, none⟩ (.int .i64 2)).setCell ⟨r + 1, 1, none⟩ (.bool true)) = V1 at *
  have HS := Lib.hid hs1
  have HB := Lib.hid hb1
  have HR := Lib.hid hr1
  clear hs1 hb1 hr1
  refine (CB.out _).mono ?_
  rintro e w1 ⟨⟨rfl, hm⟩, hb⟩
  have nHS := Lib.hid (old5 HS.out hb (Nat.le_refl _))
  have nHR := Lib.hid (old5 HR.out hb (Nat.le_refl _))
  have nHB := Lib.hid (bel5 HB.out hb (by rw [HG.out]; exact HB.out.size))
  have hs := (Array.getElem?_eq_some_iff.1 HS.out).1
  have HM := Lib.hid hm
  have HE := Lib.hid (show V1.heap.size ≠ r + 1 ∧ V1.heap.size + 1 ≠ r + 1 ∧ V1.heap.size ≠ r ∧ V1.heap.size + 1 ≠ r by omega)
  clear hb hs hm HS HB HR CB
  generalize V1.heap.size = gm at *
  (try clear V1)
  unfold mayV
  obtain ⟨x0, x1, x2⟩ := cellsS nHS.out
  obtain ⟨z0, z1, z2⟩ := frozenS nHS.out
  have hst : (store ⟨r + 1, 2, none⟩ (.func (.func 108) #[] #[.pointer (some ⟨gm, 0, none⟩), .pointer (some ⟨gm + 1, 0, none⟩)])).run Tryd.prog w1 = .ok () (w1.setCell ⟨r + 1, 2, none⟩ (.func (.func 108) #[] #[.pointer (some ⟨gm, 0, none⟩), .pointer (some ⟨gm + 1, 0, none⟩)])) := by
    rw [run_store _ _ _ _ _ rfl, x2, z2]; rfl
  have HS := Lib.hid (setS2 (.func (.func 108) #[] #[.pointer (some ⟨gm, 0, none⟩), .pointer (some ⟨gm + 1, 0, none⟩)]) nHS.out)
  have HR := Lib.hid (show (w1.setCell ⟨r + 1, 2, none⟩ (.func (.func 108) #[] #[.pointer (some ⟨gm, 0, none⟩), .pointer (some ⟨gm + 1, 0, none⟩)])).heap[r]? = some (.cells #[.int .i64 0, .bool false, .nilFunc] 115 (0, 0)) from (heap_setCell_other _ _ _ _ (show r ≠ r + 1 by omega)).trans nHR.out)
  clear nHR
  go_wp2_with (with_reducible refine at_list5 ?_; first | (refine loadS (w1.setCell ⟨r + 1, 2, none⟩ (.func (.func 108) #[] #[.pointer (some ⟨gm, 0, none⟩), .pointer (some ⟨gm + 1, 0, none⟩)])) (.tmp 3) (r + 1) (.int .i64 2) (.bool true) (.func (.func 108) #[] #[.pointer (some ⟨gm, 0, none⟩), .pointer (some ⟨gm + 1, 0, none⟩)]) HS.out rfl rfl rfl ?_) | (refine storeS (w1.setCell ⟨r + 1, 2, none⟩ (.func (.func 108) #[] #[.pointer (some ⟨gm, 0, none⟩), .pointer (some ⟨gm + 1, 0, none⟩)])) (.tmp 2) (.tmp 33) r (.int .i64 2) (.bool true) (.func (.func 108) #[] #[.pointer (some ⟨gm, 0, none⟩), .pointer (some ⟨gm + 1, 0, none⟩)]) _ HR.out rfl (by simp [Value.oneCell']) rfl rfl rfl rfl ?_))
  (try simp only [Exit.inBlock, Exit.then])
  refine bodyPost_ret (retS rfl _ _ r _ _ _ rfl (setRow_heap _ _ _ _ _ _ HR.out)) rfl ?_
  obtain ⟨e1, e2, e3, e4⟩ := HE.out
  refine ⟨⟨gm, rfl, ?_⟩, ?_⟩
  · exact ⟨(setRow_other _ _ _ _ e3).trans ((heap_setCell_other _ _ _ _ e1).trans HM.out.1), (setRow_other _ _ _ _ e4).trans ((heap_setCell_other _ _ _ _ e2).trans HM.out.2)⟩
  · rw [← HG.out]
    exact Below.setRow5 (nHB.out.setCell (p := ⟨r + 1, 2, none⟩) (Nat.le_succ r) (.func (.func 108) #[] #[.pointer (some ⟨gm, 0, none⟩), .pointer (some ⟨gm + 1, 0, none⟩)])) (Nat.le_refl _) _
set_option maxRecDepth 100000 in
theorem shape3 (W : World) : Calls Tryd.prog 76 #[.int .i64 3] W fun e W' => (∃ g, e = .returned (.agg #[.int .i64 0, .bool false, mayV g]) ∧ MayC W' g 32 126) ∧ Below W.heap.size W W' := by
  have CB := Lib.hid (fun w => between_any 32 126 w)
  obtain ⟨V, hV⟩ : ∃ V, V = (W.alloc (.cells #[.int .i64 0, .bool false, .nilFunc] 115)).alloc (.cells #[.int .i64 0, .bool false, .nilFunc] 115) := ⟨_, rfl⟩
  have h1 := heap_alloc_new W (.cells #[.int .i64 0, .bool false, .nilFunc] 115)
  have h2 := heap_alloc_new (W.alloc (.cells #[.int .i64 0, .bool false, .nilFunc] 115)) (.cells #[.int .i64 0, .bool false, .nilFunc] 115)
  have h3 := (heap_alloc_old (W.alloc (.cells #[.int .i64 0, .bool false, .nilFunc] 115)) (.cells #[.int .i64 0, .bool false, .nilFunc] 115) (show W.heap.size < (W.alloc (.cells #[.int .i64 0, .bool false, .nilFunc] 115)).heap.size by rw [World.size_alloc]; omega)).trans h1
  rw [World.size_alloc] at h2
  have hb := ((Below.refl W.heap.size W).alloc (Nat.le_refl _) (.cells #[.int .i64 0, .bool false, .nilFunc] 115)).alloc (by rw [World.size_alloc]; omega) (.cells #[.int .i64 0, .bool false, .nilFunc] 115)
  rw [← hV] at h2 h3 hb
  have HV := Lib.hid hV
  have HR := Lib.hid h3
  have HS := Lib.hid h2
  have HB := Lib.hid hb
  clear hV h1 h2 h3 hb
  go_enter Tryd.func76, Tryd.ntmps76
  go_wp2_with (with_reducible refine at_list5 ?_; refine storeS _ (.tmp 3) (.tmp 4) (W.heap.size + 1) (.int .i64 0) (.bool false) .nilFunc #[.int .i64 0, .bool false, .nilFunc] (by rw [← HV.out]; exact HS.out) rfl (by simp [Value.oneCell']) rfl rfl rfl rfl ?_; rw [← HV.out, setRow_id V (W.heap.size + 1) _ _ _ HS.out]; clear HV; obtain ⟨x0, x1, x2⟩ := cellsS HS.out; obtain ⟨z0, z1, z2⟩ := frozenS HS.out)

  obtain ⟨r, hr⟩ : ∃ r, r = W.heap.size := ⟨_, rfl⟩
  rw [← hr] at HR HS HB ⊢
  have HG := Lib.hid hr
  clear hr
  have hs1 : V.heap[r + 1]? = some (.cells #[.int .i64 0, .bool false, .nilFunc] 115 (0, 0)) := HS.out
  have hb1 : Below r W V := HB.out
  have hr1 : V.heap[r]? = some (.cells #[.int .i64 0, .bool false, .nilFunc] 115 (0, 0)) := HR.out
  clear HS HB HR
  generalize V = V1 at *
  have HS := Lib.hid hs1
  have HB := Lib.hid hb1
  have HR := Lib.hid hr1
  clear hs1 hb1 hr1
  refine (CB.out _).mono ?_
  rintro e w1 ⟨⟨rfl, hm⟩, hb⟩
  have nHS := Lib.hid (old5 HS.out hb (Nat.le_refl _))
  have nHR := Lib.hid (old5 HR.out hb (Nat.le_refl _))
  have nHB := Lib.hid (bel5 HB.out hb (by rw [HG.out]; exact HB.out.size))
  have hs := (Array.getElem?_eq_some_iff.1 HS.out).1
  have HM := Lib.hid hm
  have HE := Lib.hid (show V1.heap.size ≠ r + 1 ∧ V1.heap.size + 1 ≠ r + 1 ∧ V1.heap.size ≠ r ∧ V1.heap.size + 1 ≠ r by omega)
  clear hb hs hm HS HB HR CB
  generalize V1.heap.size = gm at *
  (try clear V1)
  unfold mayV
  obtain ⟨x0, x1, x2⟩ := cellsS nHS.out
  obtain ⟨z0, z1, z2⟩ := frozenS nHS.out
  have hst : (store ⟨r + 1, 2, none⟩ (.func (.func 108) #[] #[.pointer (some ⟨gm, 0, none⟩), .pointer (some ⟨gm + 1, 0, none⟩)])).run Tryd.prog w1 = .ok () (w1.setCell ⟨r + 1, 2, none⟩ (.func (.func 108) #[] #[.pointer (some ⟨gm, 0, none⟩), .pointer (some ⟨gm + 1, 0, none⟩)])) := by
    rw [run_store _ _ _ _ _ rfl, x2, z2]; rfl
  have HS := Lib.hid (setS2 (.func (.func 108) #[] #[.pointer (some ⟨gm, 0, none⟩), .pointer (some ⟨gm + 1, 0, none⟩)]) nHS.out)
  have HR := Lib.hid (show (w1.setCell ⟨r + 1, 2, none⟩ (.func (.func 108) #[] #[.pointer (some ⟨gm, 0, none⟩), .pointer (some ⟨gm + 1, 0, none⟩)])).heap[r]? = some (.cells #[.int .i64 0, .bool false, .nilFunc] 115 (0, 0)) from (heap_setCell_other _ _ _ _ (show r ≠ r + 1 by omega)).trans nHR.out)
  clear nHR
  go_wp2_with (with_reducible refine at_list5 ?_; first | (refine loadS (w1.setCell ⟨r + 1, 2, none⟩ (.func (.func 108) #[] #[.pointer (some ⟨gm, 0, none⟩), .pointer (some ⟨gm + 1, 0, none⟩)])) (.tmp 3) (r + 1) (.int .i64 0) (.bool false) (.func (.func 108) #[] #[.pointer (some ⟨gm, 0, none⟩), .pointer (some ⟨gm + 1, 0, none⟩)]) HS.out rfl rfl rfl ?_) | (refine storeS (w1.setCell ⟨r + 1, 2, none⟩ (.func (.func 108) #[] #[.pointer (some ⟨gm, 0, none⟩), .pointer (some ⟨gm + 1, 0, none⟩)])) (.tmp 2) (.tmp 33) r (.int .i64 0) (.bool false) (.func (.func 108) #[] #[.pointer (some ⟨gm, 0, none⟩), .pointer (some ⟨gm + 1, 0, none⟩)]) _ HR.out rfl (by simp [Value.oneCell']) rfl rfl rfl rfl ?_))
  (try simp only [Exit.inBlock, Exit.then])
  refine bodyPost_ret (retS rfl _ _ r _ _ _ rfl (setRow_heap _ _ _ _ _ _ HR.out)) rfl ?_
  obtain ⟨e1, e2, e3, e4⟩ := HE.out
  refine ⟨⟨gm, rfl, ?_⟩, ?_⟩
  · exact ⟨(setRow_other _ _ _ _ e3).trans ((heap_setCell_other _ _ _ _ e1).trans HM.out.1), (setRow_other _ _ _ _ e4).trans ((heap_setCell_other _ _ _ _ e2).trans HM.out.2)⟩
  · rw [← HG.out]
    exact Below.setRow5 (nHB.out.setCell (p := ⟨r + 1, 2, none⟩) (Nat.le_succ r) (.func (.func 108) #[] #[.pointer (some ⟨gm, 0, none⟩), .pointer (some ⟨gm + 1, 0, none⟩)])) (Nat.le_refl _) _
set_option maxRecDepth 100000 in
theorem shape4 (W : World) : Calls Tryd.prog 76 #[.int .i64 4] W fun e W' => (∃ g, e = .returned (.agg #[.int .i64 2, .bool false, mayV g]) ∧ MayC W' g 32 126) ∧ Below W.heap.size W W' := by
  have CB := Lib.hid (fun w => between_any 32 126 w)
  obtain ⟨V, hV⟩ : ∃ V, V = (W.alloc (.cells #[.int .i64 0, .bool false, .nilFunc] 115)).alloc (.cells #[.int .i64 0, .bool false, .nilFunc] 115) := ⟨_, rfl⟩
  have h1 := heap_alloc_new W (.cells #[.int .i64 0, .bool false, .nilFunc] 115)
  have h2 := heap_alloc_new (W.alloc (.cells #[.int .i64 0, .bool false, .nilFunc] 115)) (.cells #[.int .i64 0, .bool false, .nilFunc] 115)
  have h3 := (heap_alloc_old (W.alloc (.cells #[.int .i64 0, .bool false, .nilFunc] 115)) (.cells #[.int .i64 0, .bool false, .nilFunc] 115) (show W.heap.size < (W.alloc (.cells #[.int .i64 0, .bool false, .nilFunc] 115)).heap.size by rw [World.size_alloc]; omega)).trans h1
  rw [World.size_alloc] at h2
  have hb := ((Below.refl W.heap.size W).alloc (Nat.le_refl _) (.cells #[.int .i64 0, .bool false, .nilFunc] 115)).alloc (by rw [World.size_alloc]; omega) (.cells #[.int .i64 0, .bool false, .nilFunc] 115)
  rw [← hV] at h2 h3 hb
  have HV := Lib.hid hV
  have HR := Lib.hid h3
  have HS := Lib.hid h2
  have HB := Lib.hid hb
  clear hV h1 h2 h3 hb
  go_enter Tryd.func76, Tryd.ntmps76
  go_wp2_with (with_reducible refine at_list5 ?_; refine storeS _ (.tmp 3) (.tmp 4) (W.heap.size + 1) (.int .i64 0) (.bool false) .nilFunc #[.int .i64 0, .bool false, .nilFunc] (by rw [← HV.out]; exact HS.out) rfl (by simp [Value.oneCell']) rfl rfl rfl rfl ?_; rw [← HV.out, setRow_id V (W.heap.size + 1) _ _ _ HS.out]; clear HV; obtain ⟨x0, x1, x2⟩ := cellsS HS.out; obtain ⟨z0, z1, z2⟩ := frozenS HS.out)

  obtain ⟨r, hr⟩ : ∃ r, r = W.heap.size := ⟨_, rfl⟩
  rw [← hr] at HR HS HB ⊢
  have HG := Lib.hid hr
  clear hr
  have hs1 : (V.setCell ⟨r + 1, 0, none⟩ (.int .i64 2)).heap[r + 1]? = some (.cells #[.int .i64 2, .bool false, .nilFunc] 115 (0, 0)) := (setS0 (.int .i64 2) HS.out)
  have hb1 : Below r W (V.setCell ⟨r + 1, 0, none⟩ (.int .i64 2)) := (HB.out.setCell (p := ⟨r + 1, 0, none⟩) (Nat.le_succ r) (.int .i64 2))
  have hr1 : (V.setCell ⟨r + 1, 0, none⟩ (.int .i64 2)).heap[r]? = some (.cells #[.int .i64 0, .bool false, .nilFunc] 115 (0, 0)) := ((heap_setCell_other _ _ _ _ (by show r ≠ r + 1; omega)).trans HR.out)
  clear HS HB HR
  generalize (V.setCell ⟨r + 1, 0, none⟩ (.int .i64 2)) = V1 at *
  have HS := Lib.hid hs1
  have HB := Lib.hid hb1
  have HR := Lib.hid hr1
  clear hs1 hb1 hr1
  refine (CB.out _).mono ?_
  rintro e w1 ⟨⟨rfl, hm⟩, hb⟩
  have nHS := Lib.hid (old5 HS.out hb (Nat.le_refl _))
  have nHR := Lib.hid (old5 HR.out hb (Nat.le_refl _))
  have nHB := Lib.hid (bel5 HB.out hb (by rw [HG.out]; exact HB.out.size))
  have hs := (Array.getElem?_eq_some_iff.1 HS.out).1
  have HM := Lib.hid hm
  have HE := Lib.hid (show V1.heap.size ≠ r + 1 ∧ V1.heap.size + 1 ≠ r + 1 ∧ V1.heap.size ≠ r ∧ V1.heap.size + 1 ≠ r by omega)
  clear hb hs hm HS HB HR CB
  generalize V1.heap.size = gm at *
  (try clear V1)
  unfold mayV
  obtain ⟨x0, x1, x2⟩ := cellsS nHS.out
  obtain ⟨z0, z1, z2⟩ := frozenS nHS.out
  have hst : (store ⟨r + 1, 2, none⟩ (.func (.func 108) #[] #[.pointer (some ⟨gm, 0, none⟩), .pointer (some ⟨gm + 1, 0, none⟩)])).run Tryd.prog w1 = .ok () (w1.setCell ⟨r + 1, 2, none⟩ (.func (.func 108) #[] #[.pointer (some ⟨gm, 0, none⟩), .pointer (some ⟨gm + 1, 0, none⟩)])) := by
    rw [run_store _ _ _ _ _ rfl, x2, z2]; rfl
  have HS := Lib.hid (setS2 (.func (.func 108) #[] #[.pointer (some ⟨gm, 0, none⟩), .pointer (some ⟨gm + 1, 0, none⟩)]) nHS.out)
  have HR := Lib.hid (show (w1.setCell ⟨r + 1, 2, none⟩ (.func (.func 108) #[] #[.pointer (some ⟨gm, 0, none⟩), .pointer (some ⟨gm + 1, 0, none⟩)])).heap[r]? = some (.cells #[.int .i64 0, .bool false, .nilFunc] 115 (0, 0)) from (heap_setCell_other _ _ _ _ (show r ≠ r + 1 by omega)).trans nHR.out)
  clear nHR
  go_wp2_with (with_reducible refine at_list5 ?_; first | (refine loadS (w1.setCell ⟨r + 1, 2, none⟩ (.func (.func 108) #[] #[.pointer (some ⟨gm, 0, none⟩), .pointer (some ⟨gm + 1, 0, none⟩)])) (.tmp 3) (r + 1) (.int .i64 2) (.bool false) (.func (.func 108) #[] #[.pointer (some ⟨gm, 0, none⟩), .pointer (some ⟨gm + 1, 0, none⟩)]) HS.out rfl rfl rfl ?_) | (refine storeS (w1.setCell ⟨r + 1, 2, none⟩ (.func (.func 108) #[] #[.pointer (some ⟨gm, 0, none⟩), .pointer (some ⟨gm + 1, 0, none⟩)])) (.tmp 2) (.tmp 33) r (.int .i64 2) (.bool false) (.func (.func 108) #[] #[.pointer (some ⟨gm, 0, none⟩), .pointer (some ⟨gm + 1, 0, none⟩)]) _ HR.out rfl (by simp [Value.oneCell']) rfl rfl rfl rfl ?_))
  (try simp only [Exit.inBlock, Exit.then])
  refine bodyPost_ret (retS rfl _ _ r _ _ _ rfl (setRow_heap _ _ _ _ _ _ HR.out)) rfl ?_
  obtain ⟨e1, e2, e3, e4⟩ := HE.out
  refine ⟨⟨gm, rfl, ?_⟩, ?_⟩
  · exact ⟨(setRow_other _ _ _ _ e3).trans ((heap_setCell_other _ _ _ _ e1).trans HM.out.1), (setRow_other _ _ _ _ e4).trans ((heap_setCell_other _ _ _ _ e2).trans HM.out.2)⟩
  · rw [← HG.out]
    exact Below.setRow5 (nHB.out.setCell (p := ⟨r + 1, 2, none⟩) (Nat.le_succ r) (.func (.func 108) #[] #[.pointer (some ⟨gm, 0, none⟩), .pointer (some ⟨gm + 1, 0, none⟩)])) (Nat.le_refl _) _
set_option maxRecDepth 100000 in
theorem shape5 (W : World) : Calls Tryd.prog 76 #[.int .i64 5] W fun e W' => (∃ g, e = .returned (.agg #[.int .i64 3, .bool false, mayV g]) ∧ MayC W' g 32 126) ∧ Below W.heap.size W W' := by
  have CB := Lib.hid (fun w => between_any 32 126 w)
  obtain ⟨V, hV⟩ : ∃ V, V = (W.alloc (.cells #[.int .i64 0, .bool false, .nilFunc] 115)).alloc (.cells #[.int .i64 0, .bool false, .nilFunc] 115) := ⟨_, rfl⟩
  have h1 := heap_alloc_new W (.cells #[.int .i64 0, .bool false, .nilFunc] 115)
  have h2 := heap_alloc_new (W.alloc (.cells #[.int .i64 0, .bool false, .nilFunc] 115)) (.cells #[.int .i64 0, .bool false, .nilFunc] 115)
  have h3 := (heap_alloc_old (W.alloc (.cells #[.int .i64 0, .bool false, .nilFunc] 115)) (.cells #[.int .i64 0, .bool false, .nilFunc] 115) (show W.heap.size < (W.alloc (.cells #[.int .i64 0, .bool false, .nilFunc] 115)).heap.size by rw [World.size_alloc]; omega)).trans h1
  rw [World.size_alloc] at h2
  have hb := ((Below.refl W.heap.size W).alloc (Nat.le_refl _) (.cells #[.int .i64 0, .bool false, .nilFunc] 115)).alloc (by rw [World.size_alloc]; omega) (.cells #[.int .i64 0, .bool false, .nilFunc] 115)
  rw [← hV] at h2 h3 hb
  have HV := Lib.hid hV
  have HR := Lib.hid h3
  have HS := Lib.hid h2
  have HB := Lib.hid hb
  clear hV h1 h2 h3 hb
  go_enter Tryd.func76, Tryd.ntmps76
  go_wp2_with (with_reducible refine at_list5 ?_; refine storeS _ (.tmp 3) (.tmp 4) (W.heap.size + 1) (.int .i64 0) (.bool false) .nilFunc #[.int .i64 0, .bool false, .nilFunc] (by rw [← HV.out]; exact HS.out) rfl (by simp [Value.oneCell']) rfl rfl rfl rfl ?_; rw [← HV.out, setRow_id V (W.heap.size + 1) _ _ _ HS.out]; clear HV; obtain ⟨x0, x1, x2⟩ := cellsS HS.out; obtain ⟨z0, z1, z2⟩ := frozenS HS.out)

  obtain ⟨r, hr⟩ : ∃ r, r = W.heap.size := ⟨_, rfl⟩
  rw [← hr] at HR HS HB ⊢
  have HG := Lib.hid hr
  clear hr
  have hs1 : (V.setCell ⟨r + 1, 0, none⟩ (.int .i64 3)).heap[r + 1]? = some (.cells #[.int .i64 3, .bool false, .nilFunc] 115 (0, 0)) := (setS0 (.int .i64 3) HS.out)
  have hb1 : Below r W (V.setCell ⟨r + 1, 0, none⟩ (.int .i64 3)) := (HB.out.setCell (p := ⟨r + 1, 0, none⟩) (Nat.le_succ r) (.int .i64 3))
  have hr1 : (V.setCell ⟨r + 1, 0, none⟩ (.int .i64 3)).heap[r]? = some (.cells #[.int .i64 0, .bool false, .nilFunc] 115 (0, 0)) := ((heap_setCell_other _ _ _ _ (by show r ≠ r + 1; omega)).trans HR.out)
  clear HS HB HR
  generalize (V.setCell ⟨r + 1, 0, none⟩ (.int .i64 3)) = V1 at *
  have HS := Lib.hid hs1
  have HB := Lib.hid hb1
  have HR := Lib.hid hr1
  clear hs1 hb1 hr1
  refine (CB.out _).mono ?_
  rintro e w1 ⟨⟨rfl, hm⟩, hb⟩
  have nHS := Lib.hid (old5 HS.out hb (Nat.le_refl _))
  have nHR := Lib.hid (old5 HR.out hb (Nat.le_refl _))
  have nHB := Lib.hid (bel5 HB.out hb (by rw [HG.out]; exact HB.out.size))
  have hs := (Array.getElem?_eq_some_iff.1 HS.out).1
  have HM := Lib.hid hm
  have HE := Lib.hid (show V1.heap.size ≠ r + 1 ∧ V1.heap.size + 1 ≠ r + 1 ∧ V1.heap.size ≠ r ∧ V1.heap.size + 1 ≠ r by omega)
  clear hb hs hm HS HB HR CB
  generalize V1.heap.size = gm at *
  (try clear V1)
  unfold mayV
  obtain ⟨x0, x1, x2⟩ := cellsS nHS.out
  obtain ⟨z0, z1, z2⟩ := frozenS nHS.out
  have hst : (store ⟨r + 1, 2, none⟩ (.func (.func 108) #[] #[.pointer (some ⟨gm, 0, none⟩), .pointer (some ⟨gm + 1, 0, none⟩)])).run Tryd.prog w1 = .ok () (w1.setCell ⟨r + 1, 2, none⟩ (.func (.func 108) #[] #[.pointer (some ⟨gm, 0, none⟩), .pointer (some ⟨gm + 1, 0, none⟩)])) := by
    rw [run_store _ _ _ _ _ rfl, x2, z2]; rfl
  have HS := Lib.hid (setS2 (.func (.func 108) #[] #[.pointer (some ⟨gm, 0, none⟩), .pointer (some ⟨gm + 1, 0, none⟩)]) nHS.out)
  have HR := Lib.hid (show (w1.setCell ⟨r + 1, 2, none⟩ (.func (.func 108) #[] #[.pointer (some ⟨gm, 0, none⟩), .pointer (some ⟨gm + 1, 0, none⟩)])).heap[r]? = some (.cells #[.int .i64 0, .bool false, .nilFunc] 115 (0, 0)) from (heap_setCell_other _ _ _ _ (show r ≠ r + 1 by omega)).trans nHR.out)
  clear nHR
  go_wp2_with (with_reducible refine at_list5 ?_; first | (refine loadS (w1.setCell ⟨r + 1, 2, none⟩ (.func (.func 108) #[] #[.pointer (some ⟨gm, 0, none⟩), .pointer (some ⟨gm + 1, 0, none⟩)])) (.tmp 3) (r + 1) (.int .i64 3) (.bool false) (.func (.func 108) #[] #[.pointer (some ⟨gm, 0, none⟩), .pointer (some ⟨gm + 1, 0, none⟩)]) HS.out rfl rfl rfl ?_) | (refine storeS (w1.setCell ⟨r + 1, 2, none⟩ (.func (.func 108) #[] #[.pointer (some ⟨gm, 0, none⟩), .pointer (some ⟨gm + 1, 0, none⟩)])) (.tmp 2) (.tmp 33) r (.int .i64 3) (.bool false) (.func (.func 108) #[] #[.pointer (some ⟨gm, 0, none⟩), .pointer (some ⟨gm + 1, 0, none⟩)]) _ HR.out rfl (by simp [Value.oneCell']) rfl rfl rfl rfl ?_))
  (try simp only [Exit.inBlock, Exit.then])
  refine bodyPost_ret (retS rfl _ _ r _ _ _ rfl (setRow_heap _ _ _ _ _ _ HR.out)) rfl ?_
  obtain ⟨e1, e2, e3, e4⟩ := HE.out
  refine ⟨⟨gm, rfl, ?_⟩, ?_⟩
  · exact ⟨(setRow_other _ _ _ _ e3).trans ((heap_setCell_other _ _ _ _ e1).trans HM.out.1), (setRow_other _ _ _ _ e4).trans ((heap_setCell_other _ _ _ _ e2).trans HM.out.2)⟩
  · rw [← HG.out]
    exact Below.setRow5 (nHB.out.setCell (p := ⟨r + 1, 2, none⟩) (Nat.le_succ r) (.func (.func 108) #[] #[.pointer (some ⟨gm, 0, none⟩), .pointer (some ⟨gm + 1, 0, none⟩)])) (Nat.le_refl _) _
set_option maxRecDepth 100000 in
theorem shape6 (W : World) : Calls Tryd.prog 76 #[.int .i64 6] W fun e W' => (∃ g, e = .returned (.agg #[.int .i64 0, .bool false, mayV g]) ∧ MayC W' g 0 255) ∧ Below W.heap.size W W' := by
  have CB := Lib.hid (fun w => between_any 0 255 w)
  obtain ⟨V, hV⟩ : ∃ V, V = (W.alloc (.cells #[.int .i64 0, .bool false, .nilFunc] 115)).alloc (.cells #[.int .i64 0, .bool false, .nilFunc] 115) := ⟨_, rfl⟩
  have h1 := heap_alloc_new W (.cells #[.int .i64 0, .bool false, .nilFunc] 115)
  have h2 := heap_alloc_new (W.alloc (.cells #[.int .i64 0, .bool false, .nilFunc] 115)) (.cells #[.int .i64 0, .bool false, .nilFunc] 115)
  have h3 := (heap_alloc_old (W.alloc (.cells #[.int .i64 0, .bool false, .nilFunc] 115)) (.cells #[.int .i64 0, .bool false, .nilFunc] 115) (show W.heap.size < (W.alloc (.cells #[.int .i64 0, .bool false, .nilFunc] 115)).heap.size by rw [World.size_alloc]; omega)).trans h1
  rw [World.size_alloc] at h2
  have hb := ((Below.refl W.heap.size W).alloc (Nat.le_refl _) (.cells #[.int .i64 0, .bool false, .nilFunc] 115)).alloc (by rw [World.size_alloc]; omega) (.cells #[.int .i64 0, .bool false, .nilFunc] 115)
  rw [← hV] at h2 h3 hb
  have HV := Lib.hid hV
  have HR := Lib.hid h3
  have HS := Lib.hid h2
  have HB := Lib.hid hb
  clear hV h1 h2 h3 hb
  go_enter Tryd.func76, Tryd.ntmps76
  go_wp2_with (with_reducible refine at_list5 ?_; refine storeS _ (.tmp 3) (.tmp 4) (W.heap.size + 1) (.int .i64 0) (.bool false) .nilFunc #[.int .i64 0, .bool false, .nilFunc] (by rw [← HV.out]; exact HS.out) rfl (by simp [Value.oneCell']) rfl rfl rfl rfl ?_; rw [← HV.out, setRow_id V (W.heap.size + 1) _ _ _ HS.out]; clear HV; obtain ⟨x0, x1, x2⟩ := cellsS HS.out; obtain ⟨z0, z1, z2⟩ := frozenS HS.out)

  obtain ⟨r, hr⟩ : ∃ r, r = W.heap.size := ⟨_, rfl⟩
  rw [← hr] at HR HS HB ⊢
  have HG := Lib.hid hr
  clear hr
  have hs1 : V.heap[r + 1]? = some (.cells #[.int .i64 0, .bool false, .nilFunc] 115 (0, 0)) := HS.out
  have hb1 : Below r W V := HB.out
  have hr1 : V.heap[r]? = some (.cells #[.int .i64 0, .bool false, .nilFunc] 115 (0, 0)) := HR.out
  clear HS HB HR
  generalize V = V1 at *
  have HS := Lib.hid hs1
  have HB := Lib.hid hb1
  have HR := Lib.hid hr1
  clear hs1 hb1 hr1
  refine (CB.out _).mono ?_
  rintro e w1 ⟨⟨rfl, hm⟩, hb⟩
  have nHS := Lib.hid (old5 HS.out hb (Nat.le_refl _))
  have nHR := Lib.hid (old5 HR.out hb (Nat.le_refl _))
  have nHB := Lib.hid (bel5 HB.out hb (by rw [HG.out]; exact HB.out.size))
  have hs := (Array.getElem?_eq_some_iff.1 HS.out).1
  have HM := Lib.hid hm
  have HE := Lib.hid (show V1.heap.size ≠ r + 1 ∧ V1.heap.size + 1 ≠ r + 1 ∧ V1.heap.size ≠ r ∧ V1.heap.size + 1 ≠ r by omega)
  clear hb hs hm HS HB HR CB
  generalize V1.heap.size = gm at *
  (try clear V1)
  unfold mayV
  obtain ⟨x0, x1, x2⟩ := cellsS nHS.out
  obtain ⟨z0, z1, z2⟩ := frozenS nHS.out
  have hst : (store ⟨r + 1, 2, none⟩ (.func (.func 108) #[] #[.pointer (some ⟨gm, 0, none⟩), .pointer (some ⟨gm + 1, 0, none⟩)])).run Tryd.prog w1 = .ok () (w1.setCell ⟨r + 1, 2, none⟩ (.func (.func 108) #[] #[.pointer (some ⟨gm, 0, none⟩), .pointer (some ⟨gm + 1, 0, none⟩)])) := by
    rw [run_store _ _ _ _ _ rfl, x2, z2]; rfl
  have HS := Lib.hid (setS2 (.func (.func 108) #[] #[.pointer (some ⟨gm, 0, none⟩), .pointer (some ⟨gm + 1, 0, none⟩)]) nHS.out)
  have HR := Lib.hid (show (w1.setCell ⟨r + 1, 2, none⟩ (.func (.func 108) #[] #[.pointer (some ⟨gm, 0, none⟩), .pointer (some ⟨gm + 1, 0, none⟩)])).heap[r]? = some (.cells #[.int .i64 0, .bool false, .nilFunc] 115 (0, 0)) from (heap_setCell_other _ _ _ _ (show r ≠ r + 1 by omega)).trans nHR.out)
  clear nHR
  go_wp2_with (with_reducible refine at_list5 ?_; first | (refine loadS (w1.setCell ⟨r + 1, 2, none⟩ (.func (.func 108) #[] #[.pointer (some ⟨gm, 0, none⟩), .pointer (some ⟨gm + 1, 0, none⟩)])) (.tmp 3) (r + 1) (.int .i64 0) (.bool false) (.func (.func 108) #[] #[.pointer (some ⟨gm, 0, none⟩), .pointer (some ⟨gm + 1, 0, none⟩)]) HS.out rfl rfl rfl ?_) | (refine storeS (w1.setCell ⟨r + 1, 2, none⟩ (.func (.func 108) #[] #[.pointer (some ⟨gm, 0, none⟩), .pointer (some ⟨gm + 1, 0, none⟩)])) (.tmp 2) (.tmp 33) r (.int .i64 0) (.bool false) (.func (.func 108) #[] #[.pointer (some ⟨gm, 0, none⟩), .pointer (some ⟨gm + 1, 0, none⟩)]) _ HR.out rfl (by simp [Value.oneCell']) rfl rfl rfl rfl ?_))
  (try simp only [Exit.inBlock, Exit.then])
  refine bodyPost_ret (retS rfl _ _ r _ _ _ rfl (setRow_heap _ _ _ _ _ _ HR.out)) rfl ?_
  obtain ⟨e1, e2, e3, e4⟩ := HE.out
  refine ⟨⟨gm, rfl, ?_⟩, ?_⟩
  · exact ⟨(setRow_other _ _ _ _ e3).trans ((heap_setCell_other _ _ _ _ e1).trans HM.out.1), (setRow_other _ _ _ _ e4).trans ((heap_setCell_other _ _ _ _ e2).trans HM.out.2)⟩
  · rw [← HG.out]
    exact Below.setRow5 (nHB.out.setCell (p := ⟨r + 1, 2, none⟩) (Nat.le_succ r) (.func (.func 108) #[] #[.pointer (some ⟨gm, 0, none⟩), .pointer (some ⟨gm + 1, 0, none⟩)])) (Nat.le_refl _) _
set_option maxRecDepth 100000 in
theorem shape7 (W : World) : Calls Tryd.prog 76 #[.int .i64 7] W fun e W' => (∃ g, e = .returned (.agg #[.int .i64 3, .bool false, mayV g]) ∧ MayC W' g 0 255) ∧ Below W.heap.size W W' := by
  have CB := Lib.hid (fun w => between_any 0 255 w)
  obtain ⟨V, hV⟩ : ∃ V, V = (W.alloc (.cells #[.int .i64 0, .bool false, .nilFunc] 115)).alloc (.cells #[.int .i64 0, .bool false, .nilFunc] 115) := ⟨_, rfl⟩
  have h1 := heap_alloc_new W (.cells #[.int .i64 0, .bool false, .nilFunc] 115)
  have h2 := heap_alloc_new (W.alloc (.cells #[.int .i64 0, .bool false, .nilFunc] 115)) (.cells #[.int .i64 0, .bool false, .nilFunc] 115)
  have h3 := (heap_alloc_old (W.alloc (.cells #[.int .i64 0, .bool false, .nilFunc] 115)) (.cells #[.int .i64 0, .bool false, .nilFunc] 115) (show W.heap.size < (W.alloc (.cells #[.int .i64 0, .bool false, .nilFunc] 115)).heap.size by rw [World.size_alloc]; omega)).trans h1
  rw [World.size_alloc] at h2
  have hb := ((Below.refl W.heap.size W).alloc (Nat.le_refl _) (.cells #[.int .i64 0, .bool false, .nilFunc] 115)).alloc (by rw [World.size_alloc]; omega) (.cells #[.int .i64 0, .bool false, .nilFunc] 115)
  rw [← hV] at h2 h3 hb
  have HV := Lib.hid hV
  have HR := Lib.hid h3
  have HS := Lib.hid h2
  have HB := Lib.hid hb
  clear hV h1 h2 h3 hb
  go_enter Tryd.func76, Tryd.ntmps76
  go_wp2_with (with_reducible refine at_list5 ?_; refine storeS _ (.tmp 3) (.tmp 4) (W.heap.size + 1) (.int .i64 0) (.bool false) .nilFunc #[.int .i64 0, .bool false, .nilFunc] (by rw [← HV.out]; exact HS.out) rfl (by simp [Value.oneCell']) rfl rfl rfl rfl ?_; rw [← HV.out, setRow_id V (W.heap.size + 1) _ _ _ HS.out]; clear HV; obtain ⟨x0, x1, x2⟩ := cellsS HS.out; obtain ⟨z0, z1, z2⟩ := frozenS HS.out)

  obtain ⟨r, hr⟩ : ∃ r, r = W.heap.size := ⟨_, rfl⟩
  rw [← hr] at HR HS HB ⊢
  have HG := Lib.hid hr
  clear hr
  have hs1 : (V.setCell ⟨r + 1, 0, none⟩ (.int .i64 3)).heap[r + 1]? = some (.cells #[.int .i64 3, .bool false, .nilFunc] 115 (0, 0)) := (setS0 (.int .i64 3) HS.out)
  have hb1 : Below r W (V.setCell ⟨r + 1, 0, none⟩ (.int .i64 3)) := (HB.out.setCell (p := ⟨r + 1, 0, none⟩) (Nat.le_succ r) (.int .i64 3))
  have hr1 : (V.setCell ⟨r + 1, 0, none⟩ (.int .i64 3)).heap[r]? = some (.cells #[.int .i64 0, .bool false, .nilFunc] 115 (0, 0)) := ((heap_setCell_other _ _ _ _ (by show r ≠ r + 1; omega)).trans HR.out)
  clear HS HB HR
  generalize (V.setCell ⟨r + 1, 0, none⟩ (.int .i64 3)) = V1 at *
  have HS := Lib.hid hs1
  have HB := Lib.hid hb1
  have HR := Lib.hid hr1
  clear hs1 hb1 hr1
  refine (CB.out _).mono ?_
  rintro e w1 ⟨⟨rfl, hm⟩, hb⟩
  have nHS := Lib.hid (old5 HS.out hb (Nat.le_refl _))
  have nHR := Lib.hid (old5 HR.out hb (Nat.le_refl _))
  have nHB := Lib.hid (bel5 HB.out hb (by rw [HG.out]; exact HB.out.size))
  have hs := (Array.getElem?_eq_some_iff.1 HS.out).1
  have HM := Lib.hid hm
  have HE := Lib.hid (show V1.heap.size ≠ r + 1 ∧ V1.heap.size + 1 ≠ r + 1 ∧ V1.heap.size ≠ r ∧ V1.heap.size + 1 ≠ r by omega)
  clear hb hs hm HS HB HR CB
  generalize V1.heap.size = gm at *
  (try clear V1)
  unfold mayV
  obtain ⟨x0, x1, x2⟩ := cellsS nHS.out
  obtain ⟨z0, z1, z2⟩ := frozenS nHS.out
  have hst : (store ⟨r + 1, 2, none⟩ (.func (.func 108) #[] #[.pointer (some ⟨gm, 0, none⟩), .pointer (some ⟨gm + 1, 0, none⟩)])).run Tryd.prog w1 = .ok () (w1.setCell ⟨r + 1, 2, none⟩ (.func (.func 108) #[] #[.pointer (some ⟨gm, 0, none⟩), .pointer (some ⟨gm + 1, 0, none⟩)])) := by
    rw [run_store _ _ _ _ _ rfl, x2, z2]; rfl
  have HS := Lib.hid (setS2 (.func (.func 108) #[] #[.pointer (some ⟨gm, 0, none⟩), .pointer (some ⟨gm + 1, 0, none⟩)]) nHS.out)
  have HR := Lib.hid (show (w1.setCell ⟨r + 1, 2, none⟩ (.func (.func 108) #[] #[.pointer (some ⟨gm, 0, none⟩), .pointer (some ⟨gm + 1, 0, none⟩)])).heap[r]? = some (.cells #[.int .i64 0, .bool false, .nilFunc] 115 (0, 0)) from (heap_setCell_other _ _ _ _ (show r ≠ r + 1 by omega)).trans nHR.out)
  clear nHR
  go_wp2_with (with_reducible refine at_list5 ?_; first | (refine loadS (w1.setCell ⟨r + 1, 2, none⟩ (.func (.func 108) #[] #[.pointer (some ⟨gm, 0, none⟩), .pointer (some ⟨gm + 1, 0, none⟩)])) (.tmp 3) (r + 1) (.int .i64 3) (.bool false) (.func (.func 108) #[] #[.pointer (some ⟨gm, 0, none⟩), .pointer (some ⟨gm + 1, 0, none⟩)]) HS.out rfl rfl rfl ?_) | (refine storeS (w1.setCell ⟨r + 1, 2, none⟩ (.func (.func 108) #[] #[.pointer (some ⟨gm, 0, none⟩), .pointer (some ⟨gm + 1, 0, none⟩)])) (.tmp 2) (.tmp 33) r (.int .i64 3) (.bool false) (.func (.func 108) #[] #[.pointer (some ⟨gm, 0, none⟩), .pointer (some ⟨gm + 1, 0, none⟩)]) _ HR.out rfl (by simp [Value.oneCell']) rfl rfl rfl rfl ?_))
  (try simp only [Exit.inBlock, Exit.then])
  refine bodyPost_ret (retS rfl _ _ r _ _ _ rfl (setRow_heap _ _ _ _ _ _ HR.out)) rfl ?_
  obtain ⟨e1, e2, e3, e4⟩ := HE.out
  refine ⟨⟨gm, rfl, ?_⟩, ?_⟩
  · exact ⟨(setRow_other _ _ _ _ e3).trans ((heap_setCell_other _ _ _ _ e1).trans HM.out.1), (setRow_other _ _ _ _ e4).trans ((heap_setCell_other _ _ _ _ e2).trans HM.out.2)⟩
  · rw [← HG.out]
    exact Below.setRow5 (nHB.out.setCell (p := ⟨r + 1, 2, none⟩) (Nat.le_succ r) (.func (.func 108) #[] #[.pointer (some ⟨gm, 0, none⟩), .pointer (some ⟨gm + 1, 0, none⟩)])) (Nat.le_refl _) _
/-- a shape -/
def shV (k g : Nat) : Value := .agg #[.int .i64 ((cntF k : Nat) : Int), .bool (decide (k ≤ 2)), mayV g]
set_option maxRecDepth 100000 in
theorem shapeOf_any (k : Nat) (h1 : 1 ≤ k) (h7 : k ≤ 7) (W : World) : Calls Tryd.prog 76 #[.int .i64 (k : Int)] W fun e W' => (∃ g, e = .returned (shV k g) ∧ MayC W' g (loF k) (hiF k)) ∧ Below W.heap.size W W' := by
  have h : k = 1 ∨ k = 2 ∨ k = 3 ∨ k = 4 ∨ k = 5 ∨ k = 6 ∨ k = 7 := by omega
  rcases h with rfl | rfl | rfl | rfl | rfl | rfl | rfl
  · exact shape1 W
  · exact shape2 W
  · exact shape3 W
  · exact shape4 W
  · exact shape5 W
  · exact shape6 W
  · exact shape7 W
end Go.Proofs.YtpfjecjfooefoaaDoor
