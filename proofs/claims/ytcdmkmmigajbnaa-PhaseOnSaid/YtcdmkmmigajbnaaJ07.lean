
/- Package phase: the rows that it makes, and a look-up in them. -/
import Derived.Test.YtcdmkmmigajbnaaJ06
namespace Go.Proofs.Ytcdmkmmigajbnaa
open Go.RowKit

/-- the row of a phase, as a map's entries -/
def rowV (j : Int) : List (Int × Value) := (rowsP.filter fun r => decide (r.1 = j)).map fun r => (r.2.1, Value.int .i64 r.2.2)
set_option maxRecDepth 100000 in
theorem lookM_find (v : Int) : ∀ l : List (Int × Int × Int), lookM (l.map fun r => (r.2.1, Value.int .i64 r.2.2)) v = (l.find? fun r => decide (r.2.1 = v)).map fun r => Value.int .i64 r.2.2
  | [] => rfl
  | r :: l => by
    show (if v = r.2.1 then some (Value.int .i64 r.2.2) else lookM (l.map _) v) = _
    rw [List.find?_cons]
    by_cases h : r.2.1 = v
    · rw [if_pos h.symm, decide_eq_true h]; rfl
    · rw [if_neg (fun e => h e.symm), decide_eq_false h]; exact lookM_find v l
set_option maxRecDepth 100000 in
theorem find_filterP (p v : Int) : ∀ l : List (Int × Int × Int), (l.filter fun r => decide (r.1 = p)).find? (fun r => decide (r.2.1 = v)) = l.find? (hitP p v)
  | [] => rfl
  | r :: l => by
    have ih := find_filterP p v l
    rw [List.filter_cons, List.find?_cons (p := hitP p v)]
    by_cases h : r.1 = p
    · rw [if_pos (decide_eq_true h), List.find?_cons, ih, show hitP p v r = decide (r.2.1 = v) by unfold hitP; rw [decide_eq_true h, Bool.true_and]]
    · rw [if_neg (by rw [decide_eq_false h]; exact Bool.false_ne_true), ih, show hitP p v r = false by unfold hitP; rw [decide_eq_false h, Bool.false_and]]
set_option maxRecDepth 100000 in
/-- what a row's look-up says -/
theorem rowV_look (p v : Int) : lookM (rowV p) v = if (nextP p v).2 = true then some (Value.int .i64 (nextP p v).1) else none := by
  unfold rowV nextP
  rw [lookM_find, find_filterP]
  cases rowsP.find? (hitP p v) with
  | none => rfl
  | some r => rfl
set_option maxRecDepth 100000 in
theorem MpI.other {q : IntKind} {w : World} {g k : Nat} {l : List (Int × Value)} (h : MpI q w g l) (hk : g ≠ k) (o : Obj) : MpI q (putM w k o) g l := (putM_block w k o g hk).trans h
/-- the outer map, and the rows that are made and laid in it -/
structure Bld (V w : World) (g : Nat) (D : List (Int × Nat)) : Prop where
  at_ : V.heap.size ≤ g
  old : Below V.heap.size V w
  out : MpI .i64 w g (D.map fun d => (d.1, Value.map (some d.2)))
  row : ∀ d ∈ D, g < d.2 ∧ MpI .i64 w d.2 (rowV d.1)
/-- a row that is being made -/
structure One (V w : World) (h : Nat) (l : List (Int × Value)) : Prop where
  at_ : V.heap.size ≤ h
  old : Below V.heap.size V w
  cur : MpI .i64 w h l
structure BldR (V w : World) (g : Nat) (D : List (Int × Nat)) (h : Nat) (l : List (Int × Value)) : Prop extends Bld V w g D where
  lt : g < h
  rows : ∀ d ∈ D, d.2 < h
  cur : MpI .i64 w h l
set_option maxRecDepth 100000 in
theorem One.new (V : World) : One V (V.alloc (.map #[] 0)) V.heap.size [] := ⟨Nat.le_refl _, (Below.refl _ _).alloc (Nat.le_refl _) _, MpI.new _ V⟩
set_option maxRecDepth 100000 in
theorem One.put {V w : World} {h : Nat} {l : List (Int × Value)} (S : One V w h l) (k : Int) (v : Value) : One V (putM w h (.map (enM .i64 0 (l ++ [(k, v)])).toArray (l.length + 1))) h (l ++ [(k, v)]) := ⟨S.at_, Below.putM S.old S.at_ _, S.cur.put k v⟩
set_option maxRecDepth 100000 in
theorem Bld.new (V : World) : Bld V (V.alloc (.map #[] 0)) V.heap.size [] := ⟨Nat.le_refl _, (Below.refl _ _).alloc (Nat.le_refl _) _, MpI.new _ V, fun _ h => by cases h⟩
set_option maxRecDepth 100000 in
theorem Bld.start {V w : World} {g : Nat} {D : List (Int × Nat)} (S : Bld V w g D) : BldR V (w.alloc (.map #[] 0)) g D w.heap.size [] :=
  { at_ := S.at_, old := S.old.alloc S.old.size _, out := S.out.alloc _, row := fun d hd => ⟨(S.row d hd).1, (S.row d hd).2.alloc _⟩, lt := S.out.lt, rows := fun d hd => (S.row d hd).2.lt, cur := MpI.new _ w }
set_option maxRecDepth 100000 in
theorem Bld.call {V w w' : World} {g h : Nat} {D : List (Int × Nat)} {l : List (Int × Value)} (S : Bld V w g D) (hb : Below w.heap.size w w') (hh : w.heap.size ≤ h) (hc : MpI .i64 w' h l) : BldR V w' g D h l :=
  { at_ := S.at_, old := belG S.old hb S.old.size, out := S.out.go hb, row := fun d hd => ⟨(S.row d hd).1, (S.row d hd).2.go hb⟩, lt := Nat.lt_of_lt_of_le S.out.lt hh, rows := fun d hd => Nat.lt_of_lt_of_le (S.row d hd).2.lt hh, cur := hc }
set_option maxRecDepth 100000 in
theorem BldR.put {V w : World} {g h : Nat} {D : List (Int × Nat)} {l : List (Int × Value)} (S : BldR V w g D h l) (k : Int) (v : Value) : BldR V (putM w h (.map (enM .i64 0 (l ++ [(k, v)])).toArray (l.length + 1))) g D h (l ++ [(k, v)]) :=
  { at_ := S.at_, old := Below.putM S.old (Nat.le_trans S.at_ (Nat.le_of_lt S.lt)) _, out := S.out.other (Nat.ne_of_lt S.lt) _, row := fun d hd => ⟨(S.row d hd).1, (S.row d hd).2.other (Nat.ne_of_lt (S.rows d hd)) _⟩, lt := S.lt, rows := S.rows, cur := S.cur.put k v }
set_option maxRecDepth 100000 in
theorem BldR.done {V w : World} {g h : Nat} {D : List (Int × Nat)} {l : List (Int × Value)} (S : BldR V w g D h l) (k : Int) (hl : l = rowV k) :
    Bld V (putM w g (.map (enM .i64 0 ((D.map fun d => (d.1, Value.map (some d.2))) ++ [(k, .map (some h))])).toArray ((D.map fun d => (d.1, Value.map (some d.2))).length + 1))) g (D ++ [(k, h)]) := by
  subst hl
  refine ⟨S.at_, Below.putM S.old S.at_ _, ?_, fun d hd => ?_⟩
  · rw [List.map_append]
    exact S.out.put k _
  · rcases List.mem_append.1 hd with h1 | h1
    · exact ⟨(S.row d h1).1, (S.row d h1).2.other (Nat.ne_of_gt (S.row d h1).1) _⟩
    · obtain rfl := List.mem_singleton.1 h1
      exact ⟨S.lt, S.cur.other (Nat.ne_of_gt S.lt) _⟩
set_option maxRecDepth 100000 in
/-- a new map in a walk -/
theorem wpList_newM {ops : Array Oper} {rest : List Oper} {o : Oper} {a : Act} {Q : Exit → Act → World → Prop} {w : World} (hg : o.guard = none) (t : TypeId) (hop : o.op = Op.makeMap t none)
    (hK : wpList Try.prog ops Q rest (a.put o.dst (.map (some w.heap.size))) (w.alloc (.map #[] 0))) : wpList Try.prog ops Q (o :: rest) a w := by
  refine wpList_plain hg fun K' hK' => ?_
  unfold Oper.wp
  simp [execOp, hop, run_makeMap, Result.andThen]
  exact hK' _ _ hK
set_option maxRecDepth 100000 in
theorem wpList_new1 {ops : Array Oper} {rest : List Oper} {o : Oper} {a : Act} {Q : Exit → Act → World → Prop} {w : World} (hg : o.guard = none) (t : TypeId) (hop : o.op = Op.makeMap t none)
    (hK : ∀ w' h, Hid (One w w' h []) → wpList Try.prog ops Q rest (a.put o.dst (.map (some h))) w') : wpList Try.prog ops Q (o :: rest) a w := wpList_newM hg t hop (hK _ _ (Lib.hid (One.new w)))
set_option maxRecDepth 100000 in
theorem wpList_newO {ops : Array Oper} {rest : List Oper} {o : Oper} {a : Act} {Q : Exit → Act → World → Prop} {w : World} (hg : o.guard = none) (t : TypeId) (hop : o.op = Op.makeMap t none)
    (hK : ∀ w' g, Hid (Bld w w' g []) → wpList Try.prog ops Q rest (a.put o.dst (.map (some g))) w') : wpList Try.prog ops Q (o :: rest) a w := wpList_newM hg t hop (hK _ _ (Lib.hid (Bld.new w)))
set_option maxRecDepth 100000 in
theorem wpList_newR {ops : Array Oper} {rest : List Oper} {o : Oper} {a : Act} {Q : Exit → Act → World → Prop} {V w : World} {g : Nat} {D : List (Int × Nat)} (S : Hid (Bld V w g D)) (hg : o.guard = none) (t : TypeId) (hop : o.op = Op.makeMap t none)
    (hK : ∀ w' h, Hid (BldR V w' g D h []) → wpList Try.prog ops Q rest (a.put o.dst (.map (some h))) w') : wpList Try.prog ops Q (o :: rest) a w := wpList_newM hg t hop (hK _ _ (Lib.hid S.out.start))
set_option maxRecDepth 100000 in
theorem wpList_put1 {ops : Array Oper} {rest : List Oper} {o : Oper} {a : Act} {Q : Exit → Act → World → Prop} {V w : World} {h : Nat} {l : List (Int × Value)} (S : Hid (One V w h l)) (hg : o.guard = none) (m x v : Operand) (hop : o.op = Op.insert 34 m x v) (k : Int) (val : Value)
    (hm : a.eval m = .map (some h)) (hx : a.eval x = .int .i64 k) (hv : a.eval v = val) (hn : lookM l k = none)
    (hK : ∀ w', Hid (One V w' h (l ++ [(k, val)])) → wpList Try.prog ops Q rest (a.put o.dst undef) w') : wpList Try.prog ops Q (o :: rest) a w :=
  wpList_putM hg m x v _ (.inr hop) Try.underlying34 Try.underlying3 h l hm S.out.cur k val hx hv hn fun _ => hK _ (Lib.hid (S.out.put k val))
set_option maxRecDepth 100000 in
theorem wpList_putR {ops : Array Oper} {rest : List Oper} {o : Oper} {a : Act} {Q : Exit → Act → World → Prop} {V w : World} {g h : Nat} {D : List (Int × Nat)} {l : List (Int × Value)} (S : Hid (BldR V w g D h l)) (hg : o.guard = none) (m x v : Operand) (hop : o.op = Op.insert 34 m x v) (k : Int) (val : Value)
    (hm : a.eval m = .map (some h)) (hx : a.eval x = .int .i64 k) (hv : a.eval v = val) (hn : lookM l k = none)
    (hK : ∀ w', Hid (BldR V w' g D h (l ++ [(k, val)])) → wpList Try.prog ops Q rest (a.put o.dst undef) w') : wpList Try.prog ops Q (o :: rest) a w :=
  wpList_putM hg m x v _ (.inr hop) Try.underlying34 Try.underlying3 h l hm S.out.cur k val hx hv hn fun _ => hK _ (Lib.hid (S.out.put k val))
set_option maxRecDepth 100000 in
theorem wpList_putO {ops : Array Oper} {rest : List Oper} {o : Oper} {a : Act} {Q : Exit → Act → World → Prop} {V w : World} {g h : Nat} {D : List (Int × Nat)} {l : List (Int × Value)} (S : Hid (BldR V w g D h l)) (hg : o.guard = none) (m x v : Operand) (hop : o.op = Op.insert 35 m x v) (k : Int)
    (hm : a.eval m = .map (some g)) (hx : a.eval x = .int .i64 k) (hv : a.eval v = .map (some h)) (hl : l = rowV k) (hn : lookM (D.map fun d => (d.1, Value.map (some d.2))) k = none)
    (hK : ∀ w', Hid (Bld V w' g (D ++ [(k, h)])) → wpList Try.prog ops Q rest (a.put o.dst undef) w') : wpList Try.prog ops Q (o :: rest) a w :=
  wpList_putM hg m x v _ (.inr hop) Try.underlying35 Try.underlying3 g _ hm S.out.out k _ hx hv hn fun _ => hK _ (Lib.hid (S.out.done k hl))
set_option maxRecDepth 100000 in
set_option maxHeartbeats 1000000 in
theorem offering_any (W : World) : Calls Try.prog 21 #[] W fun e W' => ∃ h, e = .returned (.map (some h)) ∧ One W W' h (rowV 4) := by
  go_enter Try.func21, Try.ntmps21
  go_wp2_with (first | (refine wpList_new1 rfl _ rfl ?_; intro w1 h1 S1) | (refine wpList_put1 S1 rfl _ _ _ rfl _ _ rfl rfl rfl rfl ?_; clear S1; intro w1 S1))
  go_ret
  exact ⟨_, rfl, S1.out⟩
/-- the map of all rows lies at g -/
def RowsM (w : World) (g : Nat) : Prop := ∃ D : List (Int × Nat), D.map Prod.fst = [0, 1, 2, 3, 4, 5, 6, 7, 8] ∧ MpI .i64 w g (D.map fun d => (d.1, Value.map (some d.2))) ∧ ∀ d ∈ D, MpI .i64 w d.2 (rowV d.1)
set_option maxRecDepth 100000 in
set_option maxHeartbeats 4000000 in
theorem rows_any (W : World) : Calls Try.prog 20 #[] W fun e W' => ∃ g, e = .returned (.map (some g)) ∧ RowsM W' g ∧ Below W.heap.size W W' := by
  have CO := Lib.hid (fun w => offering_any w)
  go_enter Try.func20, Try.ntmps20
  go_wp2_with (first | (refine wpList_newR S1 rfl _ rfl ?_; clear S1; intro w1 h1 S2) | (refine wpList_putR S2 rfl _ _ _ rfl _ _ rfl rfl rfl rfl ?_; clear S2; intro w1 S2) | (refine wpList_putO S2 rfl _ _ _ rfl _ rfl rfl rfl (by kernel_rfl) rfl ?_; clear S2; intro w1 S1) | (refine wpList_newO rfl 35 rfl ?_; intro w1 g1 S1))
  refine (CO.out _).mono ?_
  rintro e w2 ⟨h2, rfl, O⟩
  have S2 := Lib.hid (S1.out.call O.old O.at_ O.cur)
  clear S1 O
  go_wp2_with (first | (refine wpList_newR S1 rfl _ rfl ?_; clear S1; intro w1 h1 S2) | (refine wpList_putR S2 rfl _ _ _ rfl _ _ rfl rfl rfl rfl ?_; clear S2; intro w1 S2) | (refine wpList_putO S2 rfl _ _ _ rfl _ rfl rfl rfl (by kernel_rfl) rfl ?_; clear S2; intro w1 S1))
  refine (CO.out _).mono ?_
  rintro e w2 ⟨h2, rfl, O⟩
  have S2 := Lib.hid (S1.out.call O.old O.at_ O.cur)
  clear S1 O
  go_wp2_with (first | (refine wpList_newR S1 rfl _ rfl ?_; clear S1; intro w1 h1 S2) | (refine wpList_putR S2 rfl _ _ _ rfl _ _ rfl rfl rfl rfl ?_; clear S2; intro w1 S2) | (refine wpList_putO S2 rfl _ _ _ rfl _ rfl rfl rfl (by kernel_rfl) rfl ?_; clear S2; intro w1 S1))
  go_ret
  exact ⟨_, rfl, ⟨_, rfl, S1.out.out, fun d hd => (S1.out.row d hd).2⟩, S1.out.old⟩
set_option maxRecDepth 100000 in
theorem lookD (p : Int) : ∀ D : List (Int × Nat), lookM (D.map fun d => (d.1, Value.map (some d.2))) p = (D.find? fun d => decide (d.1 = p)).map fun d => Value.map (some d.2)
  | [] => rfl
  | d :: l => by
    show (if p = d.1 then some (Value.map (some d.2)) else lookM (l.map _) p) = _
    rw [List.find?_cons]
    by_cases h : d.1 = p
    · rw [if_pos h.symm, decide_eq_true h]; rfl
    · rw [if_neg (fun e => h e.symm), decide_eq_false h]; exact lookD p l
set_option maxRecDepth 100000 in
/-- a phase's row, and what is looked up in it -/
theorem RowsM.look {w : World} {g : Nat} (h : RowsM w g) (p : Int) : ∃ m, (Instr.lookup 35 (.map (some g)) (.int .i64 p) false).run Try.prog w = .ok (.map m) w ∧
    ∀ v, (Instr.lookup 34 (.map m) (.int .i64 v) true).run Try.prog w = .ok (.tuple #[.int .i64 (if (nextP p v).2 = true then (nextP p v).1 else 0), .bool (nextP p v).2]) w := by
  obtain ⟨D, hD, ho, hr⟩ := h
  have z1 : ∀ w, (zeroValue 34).run Try.prog w = .ok (.map none) w := fun w => rfl
  have z2 : ∀ w, (zeroValue 3).run Try.prog w = .ok (.int .i64 0) w := fun w => rfl
  have h1 := run_lookM Try.underlying35 Try.underlying3 ho p (z1 w) false
  rw [lookD] at h1
  cases e : D.find? (fun d => decide (d.1 = p)) with
  | some d =>
    rw [e] at h1
    have hp : d.1 = p := by have h3 := List.find?_some e; exact of_decide_eq_true h3
    refine ⟨some d.2, h1, fun v => ?_⟩
    have h2 := run_lookM Try.underlying34 Try.underlying3 (hr d (List.mem_of_find?_eq_some e)) v (z2 w) true
    rw [hp, rowV_look] at h2
    rw [h2]
    cases (nextP p v).2 <;> rfl
  | none =>
    rw [e] at h1
    refine ⟨none, h1, fun v => ?_⟩
    have h2 := run_lookM_nil Try.underlying34 Try.underlying3 w v (z2 w) true
    have hn : (nextP p v).2 = false := by
      cases e2 : (nextP p v).2 with
      | false => rfl
      | true =>
        exfalso
        have hi := next_in e2
        have hm : p ∈ D.map Prod.fst := by
          rw [hD]
          simp only [List.mem_cons, List.not_mem_nil, or_false]
          omega
        obtain ⟨d, hd, rfl⟩ := List.mem_map.1 hm
        have := List.find?_eq_none.1 e d hd
        simp at this
    rw [h2, hn]
    rfl
end Go.Proofs.Ytcdmkmmigajbnaa
/- Package phase: what each call answers. -/

namespace Go.Proofs.Ytcdmkmmigajbnaa
open Go.RowKit

set_option maxRecDepth 100000 in
/-- what is looked up, in a world that keeps its map -/
theorem look_yes {p v : Int} (h : (nextP p v).2 = true) : (Value.tuple #[.int .i64 (if (nextP p v).2 = true then (nextP p v).1 else 0), .bool (nextP p v).2]) = .tuple #[.int .i64 (nextP p v).1, .bool true] := by rw [h, if_pos rfl]
set_option maxRecDepth 100000 in
theorem look_no {p v : Int} (h : (nextP p v).2 = false) : (Value.tuple #[.int .i64 (if (nextP p v).2 = true then (nextP p v).1 else 0), .bool (nextP p v).2]) = .tuple #[.int .i64 0, .bool false] := by rw [h, if_neg Bool.false_ne_true]
set_option maxRecDepth 100000 in
set_option maxHeartbeats 1000000 in
theorem pNextD_any (p v : Int) (W : World) : Calls Try.prog 10 #[.int .i64 p, .int .i64 v] W fun e W' => e = .returned (.tuple #[.int .i64 (nextP p v).1, .bool (nextP p v).2]) ∧ Below W.heap.size W W' := by
  have CR := Lib.hid (fun w => rows_any w)
  cases e0 : (nextP p v).2 with
  | true =>
    have L := Lib.hid e0
    obtain ⟨q, hq⟩ : ∃ q, q = (nextP p v).1 := ⟨_, rfl⟩
    have HQ := Lib.hid hq
    rw [← hq]
    clear e0 hq
    go_enter Try.func10, Try.ntmps10
    go_wp2_with fail
    refine (CR.out _).mono ?_
    rintro e w1 ⟨g, rfl, hm, hb⟩
    have HB := Lib.hid hb
    obtain ⟨m, h1, h2⟩ := hm.look p
    have h3 := h2 v
    rw [look_yes L.out, ← HQ.out] at h3
    clear hb hm h2 CR L
    go_wp2
    go_ret2
    exact ⟨by first | rfl | trivial, HB.out⟩
  | false =>
    have L := Lib.hid e0
    rw [next_no e0]
    clear e0
    go_enter Try.func10, Try.ntmps10
    go_wp2_with fail
    refine (CR.out _).mono ?_
    rintro e w1 ⟨g, rfl, hm, hb⟩
    have HB := Lib.hid hb
    obtain ⟨m, h1, h2⟩ := hm.look p
    have h3 := h2 v
    rw [look_no L.out] at h3
    clear hb hm h2 CR L
    go_wp2
    go_ret2
    exact ⟨by first | rfl | trivial, HB.out⟩
set_option maxRecDepth 100000 in
set_option maxHeartbeats 1000000 in
theorem pRunD_any (p : Int) (A : Option Addr) (l : List Int) (c : Nat) (W : World) (hl : l.length ≤ 1000) (hr : RdI W W.heap.size A l) :
    Calls Try.prog 18 #[.int .i64 p, .slice A l.length c] W fun e W' => e = .returned (.tuple #[.int .i64 (runP p l).1, .int .i64 (runP p l).2]) ∧ Below W.heap.size W W' := by
  have CR := Lib.hid (fun w => rows_any w)
  obtain ⟨n, hn⟩ : ∃ n, n = l.length := ⟨_, rfl⟩
  have HN := Lib.hid hn
  have HC := Lib.hid (fun (i : Nat) (h : i < l.length) w (hb : Below W.heap.size W w) => (show ∃ b o, A = some ⟨b, o, none⟩ ∧ w.cell? ⟨b, o + i, none⟩ = some (.int .i64 l[i]) from by
    obtain ⟨b, o, e, h1, h2⟩ := hr.at_ h
    exact ⟨b, o, e, (hb.cell (p := ⟨b, o + i, none⟩) h1).trans h2⟩))
  have HK := Lib.hid (fun k => run_count p (l.take k))
  rw [← hn]
  rw [← hn] at hl
  clear hn hr
  go_enter Try.func18, Try.ntmps18
  go_wp2_with fail
  refine (CR.out _).mono ?_
  rintro e w1 ⟨g, rfl, hm, hb⟩
  have HB := Lib.hid hb
  have HM := Lib.hid hm
  clear hb hm CR
  go_wp2_with fail
  go_loopw [0, 7, 15] (fun q m i wr => ∃ k : Nat, k ≤ n ∧ q = .int .i64 (runP p (l.take k)).1 ∧ m = .int .i64 (runP p (l.take k)).2 ∧ i = .int .i64 k ∧ wr = w1) (fun _ _ i _ => n - (intOf i).toNat)
  case atStart => exact ⟨0, by omega, rfl, rfl, rfl, by first | rfl | trivial⟩
  case round =>
    obtain ⟨k, hk, rfl, rfl, rfl, hw⟩ := hrel
    obtain rfl := hw
    have hk0 : (0 : Int) ≤ (k : Int) := Int.natCast_nonneg _
    by_cases hlt : k < n
    · have hki : (k : Int) < (n : Int) := by omega
      have hkl : k < l.length := by rw [← HN.out]; exact hlt
      obtain ⟨b, o, hA, hc⟩ := HC.out k hkl _ HB.out
      subst hA
      have hs := run_snoc p (l.take k) l[k]
      rw [show l.take k ++ [l[k]] = l.take (k + 1) from by rw [List.take_succ_eq_append_getElem hkl]] at hs
      have hcnt := HK.out k
      have hlk : ((l.take k).length : Int) ≤ 1000 := by rw [List.length_take]; omega
      have HS := Lib.hid hs
      obtain ⟨q, hq⟩ : ∃ q, q = (runP p (l.take k)).1 := ⟨_, rfl⟩
      obtain ⟨m, hm⟩ : ∃ m, m = (runP p (l.take k)).2 := ⟨_, rfl⟩
      rw [← hm] at hcnt
      have hm0 : 0 ≤ m := hcnt.1
      have hm1 : m ≤ 1000 := by omega
      rw [← hq, ← hm] at HS
      simp only [← hq, ← hm]
      obtain ⟨mm, h1, h2⟩ := HM.out.look q
      have h3 := h2 l[k]
      generalize l[k] = u at *
      clear hs hcnt hq hm hlk HK HC hkl h2 HM
      cases e0 : (nextP q u).2 with
      | true =>
        have e1 : (runP p (l.take (k + 1))).1 = (nextP q u).1 := by rw [HS.out]
        have e2 : (runP p (l.take (k + 1))).2 = m + 1 := by rw [HS.out, e0]; rfl
        have E1 := Lib.hid e1
        have E2 := Lib.hid e2
        rw [look_yes e0] at h3
        clear e1 e2 e0 HS
        go_wp2_with fail
        go_roundw
        case rel => exact ⟨k + 1, by omega, by rw [E1.out], by (rw [E2.out]; try go_num), by go_num, by first | rfl | trivial⟩
        case measure => simp [intOf]; omega
      | false =>
        have e1 : (runP p (l.take (k + 1))).1 = q := by rw [HS.out]; exact next_no e0
        have e2 : (runP p (l.take (k + 1))).2 = m := by rw [HS.out, e0]; simp
        have E1 := Lib.hid e1
        have E2 := Lib.hid e2
        rw [look_no e0] at h3
        clear e1 e2 e0 HS
        go_wp2_with fail
        go_roundw
        case rel => exact ⟨k + 1, by omega, by rw [E1.out], by rw [E2.out], by go_num, by first | rfl | trivial⟩
        case measure => simp [intOf]; omega
    · obtain rfl : k = n := by omega
      have hall : l.take k = l := by rw [HN.out]; exact List.take_length
      rw [hall]
      clear hall hlt HC HK
      go_wp2_with fail
      go_ret2
      exact ⟨by first | rfl | (simp; done), HB.out⟩
set_option maxRecDepth 100000 in
theorem pGateD_any (p : Int) (W : World) : Calls Try.prog 12 #[.int .i64 p] W fun e W' => e = .returned (.bool (gateP p)) ∧ Below W.heap.size W W' := by
  by_cases h1 : 3 ≤ p
  · by_cases h2 : p ≤ 5
    · rw [show gateP p = true from decide_eq_true (by omega)]
      go_enter Try.func12, Try.ntmps12
      go_wp2
      go_ret
      exact ⟨by first | rfl | (simp; done), by first | rfl | exact Below.refl _ _⟩
    · rw [show gateP p = false from decide_eq_false (by omega)]
      go_enter Try.func12, Try.ntmps12
      go_wp2
      go_ret
      exact ⟨by first | rfl | (simp; done), by first | rfl | exact Below.refl _ _⟩
  · rw [show gateP p = false from decide_eq_false (by omega)]
    go_enter Try.func12, Try.ntmps12
    go_wp2
    go_ret
    exact ⟨by first | rfl | (simp; done), by first | rfl | exact Below.refl _ _⟩
set_option maxRecDepth 100000 in
theorem pLinkedD_any (p : Int) (W : World) : Calls Try.prog 14 #[.int .i64 p] W fun e W' => e = .returned (.bool (linkedP p)) ∧ Below W.heap.size W W' := by
  by_cases h1 : 2 ≤ p
  · by_cases h2 : p ≤ 6
    · rw [show linkedP p = true from decide_eq_true (by omega)]
      go_enter Try.func14, Try.ntmps14
      go_wp2
      go_ret
      exact ⟨by first | rfl | (simp; done), by first | rfl | exact Below.refl _ _⟩
    · rw [show linkedP p = false from decide_eq_false (by omega)]
      go_enter Try.func14, Try.ntmps14
      go_wp2
      go_ret
      exact ⟨by first | rfl | (simp; done), by first | rfl | exact Below.refl _ _⟩
  · rw [show linkedP p = false from decide_eq_false (by omega)]
    go_enter Try.func14, Try.ntmps14
    go_wp2
    go_ret
    exact ⟨by first | rfl | (simp; done), by first | rfl | exact Below.refl _ _⟩
set_option maxRecDepth 100000 in
set_option maxHeartbeats 1000000 in
theorem pNameD_any (p : Int) (W : World) : Calls Try.prog 16 #[.int .i64 p] W fun e W' => e = .returned (.string ⟨(nameP p).toArray⟩) ∧ Below W.heap.size W W' := by
  have HB := Lib.hid ((Below.refl W.heap.size W).alloc (Nat.le_refl _) (.cells #[.string ⟨#[111, 102, 102]⟩, .string ⟨#[97, 115, 107, 101, 100]⟩, .string ⟨#[116, 111, 108, 100]⟩, .string ⟨#[111, 112, 101, 110]⟩, .string ⟨#[114, 101, 107, 101, 121]⟩, .string ⟨#[99, 117, 116, 116, 105, 110, 103]⟩, .string ⟨#[99, 108, 111, 115, 105, 110, 103]⟩, .string ⟨#[102, 97, 105, 108, 101, 100]⟩, .string ⟨#[100, 97, 114, 107]⟩] 39))
  have hx := Bx.new W 39 #[.string ⟨#[111, 102, 102]⟩, .string ⟨#[97, 115, 107, 101, 100]⟩, .string ⟨#[116, 111, 108, 100]⟩, .string ⟨#[111, 112, 101, 110]⟩, .string ⟨#[114, 101, 107, 101, 121]⟩, .string ⟨#[99, 117, 116, 116, 105, 110, 103]⟩, .string ⟨#[99, 108, 111, 115, 105, 110, 103]⟩, .string ⟨#[102, 97, 105, 108, 101, 100]⟩, .string ⟨#[100, 97, 114, 107]⟩]
  by_cases h0 : p < 0
  · rw [show nameP p = [] from by unfold nameP; rw [if_neg (by omega)]]
    clear hx
    go_enter Try.func16, Try.ntmps16
    go_wp2
    go_ret
    exact ⟨by first | rfl | (simp; done), by first | exact HB.out | exact HB.out.drew⟩
  by_cases h8 : 9 ≤ p
  · rw [show nameP p = [] from by unfold nameP; rw [if_neg (by omega)]]
    clear hx
    go_enter Try.func16, Try.ntmps16
    go_wp2
    go_ret
    exact ⟨by first | rfl | (simp; done), by first | exact HB.out | exact HB.out.drew⟩
  rcases (show p = 0 ∨ p = 1 ∨ p = 2 ∨ p = 3 ∨ p = 4 ∨ p = 5 ∨ p = 6 ∨ p = 7 ∨ p = 8 by omega) with rfl | rfl | rfl | rfl | rfl | rfl | rfl | rfl | rfl
  · have hc := hx.cell (j := 0) rfl
    clear hx
    go_enter Try.func16, Try.ntmps16
    go_wp2
    go_ret
    exact ⟨by first | rfl | (simp; done), by first | exact HB.out | exact HB.out.drew⟩
  · have hc := hx.cell (j := 1) rfl
    clear hx
    go_enter Try.func16, Try.ntmps16
    go_wp2
    go_ret
    exact ⟨by first | rfl | (simp; done), by first | exact HB.out | exact HB.out.drew⟩
  · have hc := hx.cell (j := 2) rfl
    clear hx
    go_enter Try.func16, Try.ntmps16
    go_wp2
    go_ret
    exact ⟨by first | rfl | (simp; done), by first | exact HB.out | exact HB.out.drew⟩
  · have hc := hx.cell (j := 3) rfl
    clear hx
    go_enter Try.func16, Try.ntmps16
    go_wp2
    go_ret
    exact ⟨by first | rfl | (simp; done), by first | exact HB.out | exact HB.out.drew⟩
  · have hc := hx.cell (j := 4) rfl
    clear hx
    go_enter Try.func16, Try.ntmps16
    go_wp2
    go_ret
    exact ⟨by first | rfl | (simp; done), by first | exact HB.out | exact HB.out.drew⟩
  · have hc := hx.cell (j := 5) rfl
    clear hx
    go_enter Try.func16, Try.ntmps16
    go_wp2
    go_ret
    exact ⟨by first | rfl | (simp; done), by first | exact HB.out | exact HB.out.drew⟩
  · have hc := hx.cell (j := 6) rfl
    clear hx
    go_enter Try.func16, Try.ntmps16
    go_wp2
    go_ret
    exact ⟨by first | rfl | (simp; done), by first | exact HB.out | exact HB.out.drew⟩
  · have hc := hx.cell (j := 7) rfl
    clear hx
    go_enter Try.func16, Try.ntmps16
    go_wp2
    go_ret
    exact ⟨by first | rfl | (simp; done), by first | exact HB.out | exact HB.out.drew⟩
  · have hc := hx.cell (j := 8) rfl
    clear hx
    go_enter Try.func16, Try.ntmps16
    go_wp2
    go_ret
    exact ⟨by first | rfl | (simp; done), by first | exact HB.out | exact HB.out.drew⟩
end Go.Proofs.Ytcdmkmmigajbnaa
/- Package phase: what each call answers. -/

namespace Go.Proofs.Ytcdmkmmigajbnaa
open Go.RowKit

def B64p (x : Int) : Prop := -9223372036854775808 ≤ x ∧ x ≤ 9223372036854775807
/-- what the world holds of the program's own tables (none) -/
structure Tph (w : World) : Prop where
  size : w.heap.size = w.heap.size
set_option maxRecDepth 100000 in
theorem Tph.below {w w' : World} (_ : Tph w) (_ : Below w.heap.size w w') : Tph w' := ⟨rfl⟩
set_option maxRecDepth 100000 in
theorem tph (w : World) : Tph w := ⟨rfl⟩
set_option maxRecDepth 100000 in
theorem pNext_any (p v : Int) (W : World) (_hT : Tph W) (_hp : B64p p) (_hv : B64p v) : Calls Try.prog 10 #[.int .i64 p, .int .i64 v] W fun e W' => e = .returned (.tuple #[.int .i64 (nextP p v).1, .bool (nextP p v).2]) ∧ Below W.heap.size W W' := pNextD_any p v W
set_option maxRecDepth 100000 in
theorem pRun_any (p : Int) (A : Option Addr) (l : List Int) (c : Nat) (W : World) (_hT : Tph W) (_hp : B64p p) (hl : l.length ≤ 1000) (_hc : l.length ≤ c) (_hz : I64s l) (hr : RdI W W.heap.size A l) :
    Calls Try.prog 18 #[.int .i64 p, .slice A l.length c] W fun e W' => e = .returned (.tuple #[.int .i64 (runP p l).1, .int .i64 (runP p l).2]) ∧ Below W.heap.size W W' := pRunD_any p A l c W hl hr
set_option maxRecDepth 100000 in
theorem pGate_any (p : Int) (W : World) (_hT : Tph W) (_hp : B64p p) : Calls Try.prog 12 #[.int .i64 p] W fun e W' => e = .returned (.bool (gateP p)) ∧ Below W.heap.size W W' := pGateD_any p W
set_option maxRecDepth 100000 in
theorem pLinked_any (p : Int) (W : World) (_hT : Tph W) (_hp : B64p p) : Calls Try.prog 14 #[.int .i64 p] W fun e W' => e = .returned (.bool (linkedP p)) ∧ Below W.heap.size W W' := pLinkedD_any p W
set_option maxRecDepth 100000 in
theorem pName_any (p : Int) (W : World) (_hT : Tph W) (_hp : B64p p) : Calls Try.prog 16 #[.int .i64 p] W fun e W' => e = .returned (.string ⟨(nameP p).toArray⟩) ∧ Below W.heap.size W W' := pNameD_any p W

set_option maxRecDepth 100000 in
theorem B64p.of {x : Int} (h : -9223372036854775808 ≤ x) (h2 : x ≤ 9223372036854775807) : B64p x := ⟨h, h2⟩
set_option maxRecDepth 100000 in
/-- what is behind a run is a phase, or where it began -/
theorem run_64 {p : Int} (h : B64p p) (l : List Int) : B64p (runP p l).1 := by
  induction l generalizing p with
  | nil => exact h
  | cons v l ih =>
    show B64p (runP (nextP p v).1 l).1
    refine ih ?_
    cases e : (nextP p v).2 with
    | true => have h2 := next_in e; exact ⟨by omega, by omega⟩
    | false => rw [next_no e]; exact h
set_option maxRecDepth 100000 in
/-- numbers that were just laid into a block of their own -/
theorem rdi_made (w : World) (l : List Int) : RdI (w.alloc (.cells (csI l).toArray 3)) (w.alloc (.cells (csI l).toArray 3)).heap.size (some ⟨w.heap.size, 0, none⟩) l := fun _ =>
  ⟨w.heap.size, 0, rfl, by rw [World.size_alloc]; omega, fun j hj => by
    rw [Nat.zero_add]
    exact (cell_of_row _ _ _ _ _ _ (heap_alloc_new w (.cells (csI l).toArray 3))).trans (by rw [List.getElem?_toArray]; exact csI_get l j hj)⟩
set_option maxRecDepth 100000 in
theorem RdI.takeP {w : World} {B : Nat} {A : Option Addr} {l : List Int} (h : RdI w B A l) (k : Nat) : RdI w B A (l.take k) := by
  intro h0
  rw [List.length_take] at h0
  obtain ⟨b, o, e, hb, hc⟩ := h (by omega)
  refine ⟨b, o, e, hb, fun j hj => ?_⟩
  rw [List.length_take] at hj
  rw [hc j (by omega)]
  simp only [List.getElem_take]
set_option maxRecDepth 100000 in
theorem RdI.dropP {w : World} {B : Nat} {ab ao : Nat} {l : List Int} (h : RdI w B (some ⟨ab, ao, none⟩) l) (k : Nat) : RdI w B (some ⟨ab, ao + k, none⟩) (l.drop k) := by
  intro h0
  rw [List.length_drop] at h0
  obtain ⟨b, o, e, hb, hc⟩ := h (by omega)
  simp only [Option.some.injEq, Addr.mk.injEq] at e
  obtain ⟨rfl, rfl, -⟩ := e
  refine ⟨ab, ao + k, rfl, hb, fun j hj => ?_⟩
  rw [List.length_drop] at hj
  rw [Nat.add_assoc, hc (k + j) (by omega)]
  simp only [List.getElem_drop]
end Go.Proofs.Ytcdmkmmigajbnaa
/- shown: the document's examples (phase). -/

namespace Go.Proofs.Ytcdmkmmigajbnaa
open Go.RowKit

set_option maxRecDepth 100000 in
set_option maxHeartbeats 1000000 in
theorem shown14_any (W : World) (hT : Tph W) : Calls Try.prog 9 #[] W fun e W' => e = .returned (.bool true) ∧ Below W.heap.size W W' := by
  have HT := Lib.hid hT
  clear hT
  have CR := Lib.hid (fun w hT => pRun_any 0 (some ⟨w.heap.size, 0, none⟩) [0, 1, 6] 3 (w.alloc (.cells #[.int .i64 0, .int .i64 1, .int .i64 6] 3)) hT (by unfold B64p; decide) (by decide) (by decide) (by unfold I64s; decide) (rdi_made w [0, 1, 6]))
  rw [show (runP 0 [0, 1, 6]).1 = 4 from rfl, show (runP 0 [0, 1, 6]).2 = 3 from rfl, show [(0 : Int), 1, 6].length = 3 from rfl] at CR
  have C1 := Lib.hid (fun w hT => pNext_any 8 11 w hT (by unfold B64p; decide) (by unfold B64p; decide))
  rw [show (nextP 8 11).1 = 0 from rfl, show (nextP 8 11).2 = true from rfl] at C1
  have C2 := Lib.hid (fun w hT => pNext_any 7 0 w hT (by unfold B64p; decide) (by unfold B64p; decide))
  rw [show (nextP 7 0).1 = 7 from rfl, show (nextP 7 0).2 = false from rfl] at C2
  have G6 := Lib.hid (fun w hT => pGate_any 6 w hT (by unfold B64p; decide))
  have G3 := Lib.hid (fun w hT => pGate_any 3 w hT (by unfold B64p; decide))
  have L2 := Lib.hid (fun w hT => pLinked_any 2 w hT (by unfold B64p; decide))
  have L8 := Lib.hid (fun w hT => pLinked_any 8 w hT (by unfold B64p; decide))
  rw [show gateP 6 = false from rfl] at G6
  rw [show gateP 3 = true from rfl] at G3
  rw [show linkedP 2 = true from rfl] at L2
  rw [show linkedP 8 = false from rfl] at L8
  have CN := Lib.hid (fun w hT => pName_any 7 w hT (by unfold B64p; decide))
  rw [show (⟨(nameP 7).toArray⟩ : ByteArray) = ⟨#[102, 97, 105, 108, 101, 100]⟩ from rfl] at CN
  have hs : ((⟨#[102, 97, 105, 108, 101, 100]⟩ : ByteArray).toList == (⟨#[102, 97, 105, 108, 101, 100]⟩ : ByteArray).toList) = true := by simp
  have HB := Lib.hid (Below.refl W.heap.size W)
  go_enter Try.func9, Try.ntmps9
  go_wp2_with fail
  have hn := HB.out.alloc HB.out.size (.cells #[.int .i64 0, .int .i64 1, .int .i64 6] 3)
  have ha := (Below.refl W.heap.size W).alloc (Nat.le_refl _) (.cells #[.int .i64 0, .int .i64 1, .int .i64 6] 3)
  refine (CR.out W (HT.out.below (HB.out.alloc HB.out.size _))).mono ?_
  rintro e w1 ⟨rfl, hb⟩
  have nHB := Lib.hid (belG hn hb hn.size)
  have hb2 := belG ha hb ha.size
  clear hn ha
  clear hb hb2
  clear HB 
  have HB := nHB
  clear nHB 
  go_wp2_with fail
  refine (C1.out _ (HT.out.below HB.out)).mono ?_
  rintro e w2 ⟨rfl, hb⟩
  have nHB := Lib.hid (belG HB.out hb HB.out.size)
  clear hb
  clear HB 
  have HB := nHB
  clear nHB 
  go_wp2_with fail
  refine (C2.out _ (HT.out.below HB.out)).mono ?_
  rintro e w3 ⟨rfl, hb⟩
  have nHB := Lib.hid (belG HB.out hb HB.out.size)
  clear hb
  clear HB 
  have HB := nHB
  clear nHB 
  go_wp2_with fail
  refine (G6.out _ (HT.out.below HB.out)).mono ?_
  rintro e w4 ⟨rfl, hb⟩
  have nHB := Lib.hid (belG HB.out hb HB.out.size)
  clear hb
  clear HB 
  have HB := nHB
  clear nHB 
  go_wp2_with fail
  refine (G3.out _ (HT.out.below HB.out)).mono ?_
  rintro e w5 ⟨rfl, hb⟩
  have nHB := Lib.hid (belG HB.out hb HB.out.size)
  clear hb
  clear HB 
  have HB := nHB
  clear nHB 
  go_wp2_with fail
  refine (L2.out _ (HT.out.below HB.out)).mono ?_
  rintro e w6 ⟨rfl, hb⟩
  have nHB := Lib.hid (belG HB.out hb HB.out.size)
  clear hb
  clear HB 
  have HB := nHB
  clear nHB 
  go_wp2_with fail
  refine (L8.out _ (HT.out.below HB.out)).mono ?_
  rintro e w7 ⟨rfl, hb⟩
  have nHB := Lib.hid (belG HB.out hb HB.out.size)
  clear hb
  clear HB 
  have HB := nHB
  clear nHB 
  go_wp2_with fail
  refine (CN.out _ (HT.out.below HB.out)).mono ?_
  rintro e w8 ⟨rfl, hb⟩
  have nHB := Lib.hid (belG HB.out hb HB.out.size)
  clear hb
  clear HB 
  have HB := nHB
  clear nHB 
  go_wp2_with fail
  go_ret
  exact ⟨by first | rfl | (simp; done), HB.out⟩
end Go.Proofs.Ytcdmkmmigajbnaa
