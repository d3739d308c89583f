
/- Structs in memory, of any type: a box and its cells; loads, stores and returns, whole and in part. -/
import Derived.Test.YtegekmgelnkdbaaGen
import Derived.Deep.MidRow
import Derived.OrdersHeld
import Derived.Deep.RegionHeld3
import Derived.Deep.QuietTactic
import Derived.BigQuiet
import Derived.Deep.DeepCutAuto
namespace Go.Proofs.Ytegekmgelnkdbaa
open Go.RowKit

/-- a type of n cells that is a struct or an array -/
structure Ty (T : TypeId) (n : Nat) : Prop where
  is : ∃ d, Try.prog.underlying T = some d ∧ d.isRow = true
  size : (Try.prog.info? T).map (·.size) = some n
/-- the box at g holds the cells C of a T -/
def Bx (w : World) (g : Nat) (T : TypeId) (C : Array Value) : Prop := w.heap[g]? = some (.cells C T (0, 0))
set_option maxRecDepth 100000 in
theorem Bx.lt {w : World} {g : Nat} {T : TypeId} {C : Array Value} (k : Bx w g T C) : g < w.heap.size := (Array.getElem?_eq_some_iff.1 k).1
set_option maxRecDepth 100000 in
theorem Bx.cell {w : World} {g : Nat} {T : TypeId} {C : Array Value} (k : Bx w g T C) {j : Nat} {v : Value} (hv : C[j]? = some v) : w.cell? ⟨g, j, none⟩ = some v := (cell_of_row _ _ _ _ _ _ k).trans hv
set_option maxRecDepth 100000 in
theorem Bx.thaw {w : World} {g : Nat} {T : TypeId} {C : Array Value} (k : Bx w g T C) (j : Nat) : w.frozen? ⟨g, j, none⟩ = false := frozen_of_row w g j _ _ k
set_option maxRecDepth 100000 in
theorem Bx.old {w w' : World} {B g : Nat} {T : TypeId} {C : Array Value} (k : Bx w g T C) (hb : Below B w w') (hB : w.heap.size ≤ B) : Bx w' g T C := oldG k hb hB
set_option maxRecDepth 100000 in
theorem Bx.go {w w' : World} {g : Nat} {T : TypeId} {C : Array Value} (k : Bx w g T C) (hb : Below w.heap.size w w') : Bx w' g T C := oldG k hb (Nat.le_refl _)
set_option maxRecDepth 100000 in
theorem Bx.drew {w : World} {g : Nat} {T : TypeId} {C : Array Value} (k : Bx w g T C) : Bx w.drew g T C := k
set_option maxRecDepth 100000 in
theorem Bx.set {w : World} {g : Nat} {T : TypeId} {C C' : Array Value} (k : Bx w g T C) {j : Nat} {v : Value} (e : C.setIfInBounds j v = C') : Bx (w.setCell ⟨g, j, none⟩ v) g T C' := by
  have h1 := heap_setCell_same w g j _ _ v k
  rw [e] at h1
  exact h1
set_option maxRecDepth 100000 in
theorem Bx.setOther {w : World} {g k : Nat} {T : TypeId} {C : Array Value} (h : Bx w g T C) (hne : g ≠ k) (j : Nat) (v : Value) : Bx (w.setCell ⟨k, j, none⟩ v) g T C := (heap_setCell_other w ⟨k, j, none⟩ g v hne).trans h
set_option maxRecDepth 100000 in
theorem Bx.new (w : World) (T : TypeId) (C : Array Value) : Bx (w.alloc (.cells C T)) w.heap.size T C := heap_alloc_new w _
set_option maxRecDepth 100000 in
theorem Bx.alloc {w : World} {g : Nat} {T : TypeId} {C : Array Value} (k : Bx w g T C) (o : Obj) : Bx (w.alloc o) g T C := (heap_alloc_old w o k.lt).trans k
set_option maxRecDepth 100000 in
theorem Bx.setRow {w : World} {g : Nat} {T : TypeId} {C : Array Value} (k : Bx w g T C) (C' : Array Value) : Bx (w.setRow g C') g T C' := setRow_heap _ _ _ _ _ _ k
set_option maxRecDepth 100000 in
theorem Bx.setRowOther {w : World} {g k : Nat} {T : TypeId} {C : Array Value} (h : Bx w g T C) (hne : g ≠ k) (C' : Array Value) : Bx (w.setRow k C') g T C := (setRow_other w k g C' hne).trans h
set_option maxRecDepth 100000 in
theorem Bx.ne {w : World} {g k : Nat} {T U : TypeId} {C D : Array Value} (h : Bx w g T C) (h2 : Bx w k U D) (hTU : T ≠ U) : g ≠ k := fun e => by
  subst e
  have h3 := h.symm.trans h2
  simp only [Option.some.injEq, Obj.cells.injEq] at h3
  exact hTU h3.2.1
set_option maxRecDepth 100000 in
theorem run_varX {w : World} {g : Nat} {T : TypeId} {n : Nat} {C : Array Value} (ty : Ty T n) (hn : C.size = n) (k : Bx w g T C) : (loadVar T ⟨g, 0, none⟩).run Try.prog w = .ok (.agg C) w := by
  obtain ⟨⟨d, hu, hd⟩, hs⟩ := ty
  have := run_loadVar_mid (P := Try.prog) w g 0 T C.toList d (fun j v hv => by rw [Nat.zero_add]; exact k.cell (by simpa using hv)) hu hd (by rw [Array.length_toList, hn]; exact hs)
  simpa using this
set_option maxRecDepth 100000 in
theorem run_loadX {w : World} {g : Nat} {T : TypeId} {n : Nat} {C : Array Value} (ty : Ty T n) (hn : C.size = n) (k : Bx w g T C) : (Instr.loadAt T (.pointer (some ⟨g, 0, none⟩))).run Try.prog w = .ok (.agg C) w := by
  simp only [Instr.loadAt, Instr.sureAddr, Sem.run_bind, Sem.run_pure, Result.andThen_ok, run_varX ty hn k]
set_option maxRecDepth 100000 in
theorem loadX {ops : Array Oper} {rest : List Oper} {o : Oper} {a : Act} {Q : Exit → Act → World → Prop} {W : World} {T : TypeId} {n : Nat} (p : Operand) (g : Nat) (C : Array Value) (ty : Ty T n) (hn : C.size = n)
    (hg : Bx W g T C) (hw : Region.wanted o (yielded ops a.tmps) = true) (ho : o.op = .load T p) (hx : a.eval p = .pointer (some ⟨g, 0, none⟩))
    (hK : wpList Try.prog ops Q rest (a.put o.dst (.agg C)) W) : wpList Try.prog ops Q (o :: rest) a W := by
  refine BigFrame.wpList_want hw fun _ hK' => ?_
  unfold Oper.wp execOp
  simp only [ho, hx, Instr.loadAt, Instr.sureAddr, Sem.run_bind, Sem.run_pure, Result.andThen_ok, run_varX ty hn hg]
  exact hK' _ _ hK
set_option maxRecDepth 100000 in
theorem storeX {ops : Array Oper} {rest : List Oper} {o : Oper} {a : Act} {Q : Exit → Act → World → Prop} {W : World} {T : TypeId} {n : Nat} (p y : Operand) (g : Nat) (C old : Array Value) (ty : Ty T n) (hn : C.size = n) (h1 : C.all (·.oneCell') = true)
    (hg : Bx W g T old) (hold : old.size = n) (hw : Region.wanted o (yielded ops a.tmps) = true) (ho : o.op = .store T p y) (hx : a.eval p = .pointer (some ⟨g, 0, none⟩)) (hy : a.eval y = .agg C)
    (hK : wpList Try.prog ops Q rest (a.put o.dst undef) (W.setRow g C)) : wpList Try.prog ops Q (o :: rest) a W :=
  BigFrame.wpList_want hw fun _ hK' => wp_store_row T p y ho g C hx hy T old hg (by rw [hn]; exact ty.size) (by rw [hn]; exact hold) h1 (hK' _ _ hK)
/-- cells of a part -/
def Part (C : Array Value) (o : Nat) (D : Array Value) : Prop := ∀ j v, D[j]? = some v → C[o + j]? = some v
set_option maxRecDepth 100000 in
theorem Bx.range {w : World} {g o : Nat} {T : TypeId} {C D : Array Value} (k : Bx w g T C) (h : Part C o D) : w.rangeAt g o D.toList := fun j v hv => k.cell (h j v (by simpa using hv))
set_option maxRecDepth 100000 in
theorem run_loadP {w : World} {g o : Nat} {T U : TypeId} {m : Nat} {C D : Array Value} (ty : Ty U m) (hm : D.size = m) (k : Bx w g T C) (h : Part C o D) : (Instr.loadAt U (.pointer (some ⟨g, o, none⟩))).run Try.prog w = .ok (.agg D) w := by
  obtain ⟨⟨d, hu, hd⟩, hs⟩ := ty
  have := run_loadAt_mid (P := Try.prog) w g o U D.toList d (k.range h) hu hd (by rw [Array.length_toList, hm]; exact hs)
  simpa using this
set_option maxRecDepth 100000 in
theorem loadPx {ops : Array Oper} {rest : List Oper} {op : Oper} {a : Act} {Q : Exit → Act → World → Prop} {W : World} {T U : TypeId} {m : Nat} (p : Operand) (g o : Nat) (C D : Array Value) (ty : Ty U m) (hm : D.size = m) (hP : Part C o D)
    (hg : Bx W g T C) (hw : Region.wanted op (yielded ops a.tmps) = true) (ho : op.op = .load U p) (hx : a.eval p = .pointer (some ⟨g, o, none⟩))
    (hK : wpList Try.prog ops Q rest (a.put op.dst (.agg D)) W) : wpList Try.prog ops Q (op :: rest) a W := by
  obtain ⟨⟨d, hu, hd⟩, hs⟩ := ty
  refine BigFrame.wpList_want hw fun _ hK' => wp_load_mid (P := Try.prog) U p ho g o hx D.toList d (hg.range hP) hu hd (by rw [Array.length_toList, hm]; exact hs) ?_
  simpa using hK' _ _ hK
/-- a part is stored: what lies there then -/
def putP (C : Array Value) (o : Nat) : List Value → Array Value
  | [] => C
  | v :: r => putP (C.setIfInBounds o v) (o + 1) r
set_option maxRecDepth 100000 in
theorem Bx.putP {w : World} {g : Nat} {T : TypeId} : ∀ {C : Array Value} (l : List Value) (o : Nat), Bx w g T C → Bx (w.setCells g o l) g T (putP C o l)
  | _, [], _, k => k
  | C, v :: r, o, k => by
    show Bx ((w.setCell ⟨g, o, none⟩ v).setCells g (o + 1) r) g T (Proofs.Ytegekmgelnkdbaa.putP (C.setIfInBounds o v) (o + 1) r)
    exact Bx.putP (w := w.setCell ⟨g, o, none⟩ v) r (o + 1) (k.set rfl)
set_option maxRecDepth 100000 in
theorem setCells_block (g : Nat) : ∀ (l : List Value) (o : Nat) (w : World) (k : Nat), k ≠ g → (w.setCells g o l).heap[k]? = w.heap[k]?
  | [], _, _, _, _ => rfl
  | v :: r, o, w, k, h => by
    rw [World.setCells, setCells_block g r (o + 1) _ k h]
    exact heap_setCell_other w ⟨g, o, none⟩ k v h
set_option maxRecDepth 100000 in
theorem Bx.putOther {w : World} {g k : Nat} {T : TypeId} {C : Array Value} (h : Bx w g T C) (hne : g ≠ k) (o : Nat) (l : List Value) : Bx (w.setCells k o l) g T C := (setCells_block k l o w g hne).trans h
set_option maxRecDepth 100000 in
theorem Below.setCellsG {B : Nat} {a : World} {g : Nat} (hg : B ≤ g) : ∀ (l : List Value) (o : Nat) (w : World), Below B a w → Below B a (w.setCells g o l)
  | [], _, _, h => h
  | v :: r, o, _w, h => Below.setCellsG hg r (o + 1) _ (h.setCell (p := ⟨g, o, none⟩) hg v)
set_option maxRecDepth 100000 in
theorem storePx {ops : Array Oper} {rest : List Oper} {op : Oper} {a : Act} {Q : Exit → Act → World → Prop} {W : World} {T U : TypeId} {m : Nat} (p y : Operand) (g o : Nat) (C D : Array Value) (ty : Ty U m) (hm : D.size = m) (h1 : D.all (·.oneCell') = true)
    (hg : Bx W g T C) (hC : o + m ≤ C.size) (hw : Region.wanted op (yielded ops a.tmps) = true) (ho : op.op = .store U p y) (hx : a.eval p = .pointer (some ⟨g, o, none⟩)) (hy : a.eval y = .agg D)
    (hK : wpList Try.prog ops Q rest (a.put op.dst undef) (W.setCells g o D.toList)) : wpList Try.prog ops Q (op :: rest) a W := by
  refine BigFrame.wpList_want hw fun _ hK' => wp_store_mid (P := Try.prog) U p y ho g o D hx hy (fun j hj => ?_) (by rw [hm]; exact ty.size) h1 (hK' _ _ hK)
  refine ⟨?_, hg.thaw _⟩
  rw [hg.cell (Array.getElem?_eq_getElem (show o + j < C.size by omega))]
  rfl
set_option maxRecDepth 100000 in
/-- the answer is a box alone, or a box and one, two more -/
theorem retX1 {fn : Func} {p : Tmp} {T : TypeId} (h : fn.results = #[.cell p T]) (tmps : Array Value) (W : World) (g : Nat) {n : Nat} (C : Array Value) (ty : Ty T n) (hn : C.size = n) (hp : tmps.getD p undef = .pointer (some ⟨g, 0, none⟩)) (hg : Bx W g T C) :
    (results fn tmps).run Try.prog W = .ok (.agg C) W := by
  have hp' : tmps[p]?.getD undef = .pointer (some ⟨g, 0, none⟩) := by simpa using hp
  simp [results, h, hp', asAddr, run_varX ty hn hg]
set_option maxRecDepth 100000 in
theorem retX2 {fn : Func} {p q : Tmp} {T : TypeId} (h : fn.results = #[.cell p T, .tmp q]) (tmps : Array Value) (W : World) (g : Nat) {n : Nat} (C : Array Value) (v : Value) (ty : Ty T n) (hn : C.size = n) (hp : tmps.getD p undef = .pointer (some ⟨g, 0, none⟩)) (hq : tmps.getD q undef = v) (hg : Bx W g T C) :
    (results fn tmps).run Try.prog W = .ok (.tuple #[.agg C, v]) W := by
  have hp' : tmps[p]?.getD undef = .pointer (some ⟨g, 0, none⟩) := by simpa using hp
  have hq' : tmps[q]?.getD undef = v := by simpa using hq
  simp [results, h, hp', hq', asAddr, run_varX ty hn hg]
set_option maxRecDepth 100000 in
theorem retX3 {fn : Func} {p q s : Tmp} {T : TypeId} (h : fn.results = #[.cell p T, .tmp q, .tmp s]) (tmps : Array Value) (W : World) (g : Nat) {n : Nat} (C : Array Value) (v u : Value) (ty : Ty T n) (hn : C.size = n) (hp : tmps.getD p undef = .pointer (some ⟨g, 0, none⟩)) (hq : tmps.getD q undef = v) (hs2 : tmps.getD s undef = u) (hg : Bx W g T C) :
    (results fn tmps).run Try.prog W = .ok (.tuple #[.agg C, v, u]) W := by
  have hp' : tmps[p]?.getD undef = .pointer (some ⟨g, 0, none⟩) := by simpa using hp
  have hq' : tmps[q]?.getD undef = v := by simpa using hq
  have hs' : tmps[s]?.getD undef = u := by simpa using hs2
  simp [results, h, hp', hq', hs', asAddr, run_varX ty hn hg]
set_option maxRecDepth 100000 in
/-- in a region that draws -/
theorem yieldsX {ops : Array Oper} {S : World → Prop} {o : Oper} {a : Act} {T : TypeId} (hw : Region.wanted o (yielded ops a.tmps) = true) (p : Operand) (ho : o.op = .load T p) (ad : Addr) (hx : a.eval p = .pointer (some ad)) (C : Array Value)
    (hS : ∀ w, S w → (Instr.loadAt T (.pointer (some ad))).run Try.prog w = .ok (.agg C) w) : YieldsIf Try.prog ops S o (.agg C) a :=
  .inl ⟨hw, fun w hw' => by
    unfold execOp
    simp only [ho, hx, Sem.run_bind, Sem.run_pure, Result.andThen_ok, hS w hw']⟩
/-! ### boxes that are made -/
set_option maxRecDepth 100000 in
theorem bx1 (W : World) (T : TypeId) (C : Array Value) : ∃ V, V = W.alloc (.cells C T) ∧ Below W.heap.size W V ∧ Bx V W.heap.size T C := ⟨_, rfl, (Below.refl W.heap.size W).alloc (Nat.le_refl _) _, heap_alloc_new W _⟩
set_option maxRecDepth 100000 in
theorem bx2 (W : World) (T U : TypeId) (C D : Array Value) : ∃ V, V = (W.alloc (.cells C T)).alloc (.cells D U) ∧ Below W.heap.size W V ∧ Bx V W.heap.size T C ∧ Bx V (W.heap.size + 1) U D ∧ V.heap.size = W.heap.size + 2 := by
  refine ⟨_, rfl, ((Below.refl W.heap.size W).alloc (Nat.le_refl _) _).alloc (by rw [World.size_alloc]; omega) _, ?_, ?_, by simp⟩
  · exact (heap_alloc_old (W.alloc (.cells C T)) _ (by rw [World.size_alloc]; omega)).trans (heap_alloc_new W _)
  · have h := heap_alloc_new (W.alloc (.cells C T)) (.cells D U)
    rwa [World.size_alloc] at h
set_option maxRecDepth 100000 in
theorem bx3 (W : World) (T U X : TypeId) (C D E : Array Value) : ∃ V, V = ((W.alloc (.cells C T)).alloc (.cells D U)).alloc (.cells E X) ∧ Below W.heap.size W V ∧ Bx V W.heap.size T C ∧ Bx V (W.heap.size + 1) U D ∧ Bx V (W.heap.size + 2) X E ∧ V.heap.size = W.heap.size + 3 := by
  obtain ⟨V, rfl, hb, h1, h2, hs⟩ := bx2 W T U C D
  refine ⟨_, rfl, hb.alloc (by omega) _, h1.alloc _, h2.alloc _, ?_, by simp⟩
  have h := heap_alloc_new ((W.alloc (.cells C T)).alloc (.cells D U)) (.cells E X)
  rwa [hs] at h
end Go.Proofs.Ytegekmgelnkdbaa
