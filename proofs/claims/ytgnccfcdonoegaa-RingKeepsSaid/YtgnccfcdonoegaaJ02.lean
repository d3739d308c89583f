
/- Structs in memory, of any type: a box and its cells; loads, stores and returns, whole and in part. -/
import Derived.Test.YtgnccfcdonoegaaJ01
import Derived.Deep.MidRow
import Derived.OrdersHeld
import Derived.Deep.RegionHeld3
import Derived.Deep.QuietTactic
import Derived.BigQuiet
import Derived.Deep.DeepCutAuto
import Derived.Deep.RegionLaw
import Derived.Deep.DeepMust
import Derived.StillTailTactics
import Derived.Test.YtgnccfcdonoegaaRows
import Derived.WalkKit
import Derived.WalkLawsBesides
import Derived.WalkSpells
import Derived.Lib.Hide
namespace Go.Proofs.Ytgnccfcdonoegaa
open Go.RowKit

/-- a type of n cells that is a struct or an array -/
structure Ty (T : TypeId) (n : Nat) : Prop where
  is : ∃ d, Try.prog.underlying T = some d ∧ d.isRow = true
  size : (Try.prog.info? T).map (·.size) = some n
/-- the box at g holds the cells C of a T -/
def Bx (w : World) (g : Nat) (T : TypeId) (C : Array Value) : Prop := w.heap[g]? = some (.cells C T (0, 0))
set_option maxRecDepth 100000 in
theorem Bx.lt {w : World} {g : Nat} {T : TypeId} {C : Array Value} (k : Bx w g T C) : g < w.heap.size := (Array.getElem?_eq_some_iff.1 k).1
set_option maxRecDepth 100000 in
theorem Bx.cell {w : World} {g : Nat} {T : TypeId} {C : Array Value} (k : Bx w g T C) {j : Nat} {v : Value} (hv : C[j]? = some v) : w.cell? ⟨g, j, none⟩ = some v := (cell_of_row _ _ _ _ _ _ k).trans hv
set_option maxRecDepth 100000 in
theorem Bx.thaw {w : World} {g : Nat} {T : TypeId} {C : Array Value} (k : Bx w g T C) (j : Nat) : w.frozen? ⟨g, j, none⟩ = false := frozen_of_row w g j _ _ k
set_option maxRecDepth 100000 in
theorem Bx.old {w w' : World} {B g : Nat} {T : TypeId} {C : Array Value} (k : Bx w g T C) (hb : Below B w w') (hB : w.heap.size ≤ B) : Bx w' g T C := oldG k hb hB
set_option maxRecDepth 100000 in
theorem Bx.go {w w' : World} {g : Nat} {T : TypeId} {C : Array Value} (k : Bx w g T C) (hb : Below w.heap.size w w') : Bx w' g T C := oldG k hb (Nat.le_refl _)
set_option maxRecDepth 100000 in
theorem Bx.drew {w : World} {g : Nat} {T : TypeId} {C : Array Value} (k : Bx w g T C) : Bx w.drew g T C := k
set_option maxRecDepth 100000 in
theorem Bx.set {w : World} {g : Nat} {T : TypeId} {C C' : Array Value} (k : Bx w g T C) {j : Nat} {v : Value} (e : C.setIfInBounds j v = C') : Bx (w.setCell ⟨g, j, none⟩ v) g T C' := by
  have h1 := heap_setCell_same w g j _ _ v k
  rw [e] at h1
  exact h1
set_option maxRecDepth 100000 in
theorem Bx.setOther {w : World} {g k : Nat} {T : TypeId} {C : Array Value} (h : Bx w g T C) (hne : g ≠ k) (j : Nat) (v : Value) : Bx (w.setCell ⟨k, j, none⟩ v) g T C := (heap_setCell_other w ⟨k, j, none⟩ g v hne).trans h
set_option maxRecDepth 100000 in
theorem Bx.new (w : World) (T : TypeId) (C : Array Value) : Bx (w.alloc (.cells C T)) w.heap.size T C := heap_alloc_new w _
set_option maxRecDepth 100000 in
theorem Bx.alloc {w : World} {g : Nat} {T : TypeId} {C : Array Value} (k : Bx w g T C) (o : Obj) : Bx (w.alloc o) g T C := (heap_alloc_old w o k.lt).trans k
set_option maxRecDepth 100000 in
theorem Bx.setRow {w : World} {g : Nat} {T : TypeId} {C : Array Value} (k : Bx w g T C) (C' : Array Value) : Bx (w.setRow g C') g T C' := setRow_heap _ _ _ _ _ _ k
set_option maxRecDepth 100000 in
theorem Bx.setRowOther {w : World} {g k : Nat} {T : TypeId} {C : Array Value} (h : Bx w g T C) (hne : g ≠ k) (C' : Array Value) : Bx (w.setRow k C') g T C := (setRow_other w k g C' hne).trans h
set_option maxRecDepth 100000 in
theorem Bx.ne {w : World} {g k : Nat} {T U : TypeId} {C D : Array Value} (h : Bx w g T C) (h2 : Bx w k U D) (hTU : T ≠ U) : g ≠ k := fun e => by
  subst e
  have h3 := h.symm.trans h2
  simp only [Option.some.injEq, Obj.cells.injEq] at h3
  exact hTU h3.2.1
set_option maxRecDepth 100000 in
theorem run_varX {w : World} {g : Nat} {T : TypeId} {n : Nat} {C : Array Value} (ty : Ty T n) (hn : C.size = n) (k : Bx w g T C) : (loadVar T ⟨g, 0, none⟩).run Try.prog w = .ok (.agg C) w := by
  obtain ⟨⟨d, hu, hd⟩, hs⟩ := ty
  have := run_loadVar_mid (P := Try.prog) w g 0 T C.toList d (fun j v hv => by rw [Nat.zero_add]; exact k.cell (by simpa using hv)) hu hd (by rw [Array.length_toList, hn]; exact hs)
  simpa using this
set_option maxRecDepth 100000 in
theorem run_loadX {w : World} {g : Nat} {T : TypeId} {n : Nat} {C : Array Value} (ty : Ty T n) (hn : C.size = n) (k : Bx w g T C) : (Instr.loadAt T (.pointer (some ⟨g, 0, none⟩))).run Try.prog w = .ok (.agg C) w := by
  simp only [Instr.loadAt, Instr.sureAddr, Sem.run_bind, Sem.run_pure, Result.andThen_ok, run_varX ty hn k]
set_option maxRecDepth 100000 in
theorem loadX {ops : Array Oper} {rest : List Oper} {o : Oper} {a : Act} {Q : Exit → Act → World → Prop} {W : World} {T : TypeId} {n : Nat} (p : Operand) (g : Nat) (C : Array Value) (ty : Ty T n) (hn : C.size = n)
    (hg : Bx W g T C) (hw : Region.wanted o (yielded ops a.tmps) = true) (ho : o.op = .load T p) (hx : a.eval p = .pointer (some ⟨g, 0, none⟩))
    (hK : wpList Try.prog ops Q rest (a.put o.dst (.agg C)) W) : wpList Try.prog ops Q (o :: rest) a W := by
  refine BigFrame.wpList_want hw fun _ hK' => ?_
  unfold Oper.wp execOp
  simp only [ho, hx, Instr.loadAt, Instr.sureAddr, Sem.run_bind, Sem.run_pure, Result.andThen_ok, run_varX ty hn hg]
  exact hK' _ _ hK
set_option maxRecDepth 100000 in
theorem storeX {ops : Array Oper} {rest : List Oper} {o : Oper} {a : Act} {Q : Exit → Act → World → Prop} {W : World} {T : TypeId} {n : Nat} (p y : Operand) (g : Nat) (C old : Array Value) (ty : Ty T n) (hn : C.size = n) (h1 : C.all (·.oneCell') = true)
    (hg : Bx W g T old) (hold : old.size = n) (hw : Region.wanted o (yielded ops a.tmps) = true) (ho : o.op = .store T p y) (hx : a.eval p = .pointer (some ⟨g, 0, none⟩)) (hy : a.eval y = .agg C)
    (hK : wpList Try.prog ops Q rest (a.put o.dst undef) (W.setRow g C)) : wpList Try.prog ops Q (o :: rest) a W :=
  BigFrame.wpList_want hw fun _ hK' => wp_store_row T p y ho g C hx hy T old hg (by rw [hn]; exact ty.size) (by rw [hn]; exact hold) h1 (hK' _ _ hK)
/-- cells of a part -/
def Part (C : Array Value) (o : Nat) (D : Array Value) : Prop := ∀ j v, D[j]? = some v → C[o + j]? = some v
set_option maxRecDepth 100000 in
theorem Bx.range {w : World} {g o : Nat} {T : TypeId} {C D : Array Value} (k : Bx w g T C) (h : Part C o D) : w.rangeAt g o D.toList := fun j v hv => k.cell (h j v (by simpa using hv))
set_option maxRecDepth 100000 in
theorem run_loadP {w : World} {g o : Nat} {T U : TypeId} {m : Nat} {C D : Array Value} (ty : Ty U m) (hm : D.size = m) (k : Bx w g T C) (h : Part C o D) : (Instr.loadAt U (.pointer (some ⟨g, o, none⟩))).run Try.prog w = .ok (.agg D) w := by
  obtain ⟨⟨d, hu, hd⟩, hs⟩ := ty
  have := run_loadAt_mid (P := Try.prog) w g o U D.toList d (k.range h) hu hd (by rw [Array.length_toList, hm]; exact hs)
  simpa using this
set_option maxRecDepth 100000 in
theorem loadPx {ops : Array Oper} {rest : List Oper} {op : Oper} {a : Act} {Q : Exit → Act → World → Prop} {W : World} {T U : TypeId} {m : Nat} (p : Operand) (g o : Nat) (C D : Array Value) (ty : Ty U m) (hm : D.size = m) (hP : Part C o D)
    (hg : Bx W g T C) (hw : Region.wanted op (yielded ops a.tmps) = true) (ho : op.op = .load U p) (hx : a.eval p = .pointer (some ⟨g, o, none⟩))
    (hK : wpList Try.prog ops Q rest (a.put op.dst (.agg D)) W) : wpList Try.prog ops Q (op :: rest) a W := by
  obtain ⟨⟨d, hu, hd⟩, hs⟩ := ty
  refine BigFrame.wpList_want hw fun _ hK' => wp_load_mid (P := Try.prog) U p ho g o hx D.toList d (hg.range hP) hu hd (by rw [Array.length_toList, hm]; exact hs) ?_
  simpa using hK' _ _ hK
/-- a part is stored: what lies there then -/
def putP (C : Array Value) (o : Nat) : List Value → Array Value
  | [] => C
  | v :: r => putP (C.setIfInBounds o v) (o + 1) r
set_option maxRecDepth 100000 in
theorem Bx.putP {w : World} {g : Nat} {T : TypeId} : ∀ {C : Array Value} (l : List Value) (o : Nat), Bx w g T C → Bx (w.setCells g o l) g T (putP C o l)
  | _, [], _, k => k
  | C, v :: r, o, k => by
    show Bx ((w.setCell ⟨g, o, none⟩ v).setCells g (o + 1) r) g T (Proofs.Ytgnccfcdonoegaa.putP (C.setIfInBounds o v) (o + 1) r)
    exact Bx.putP (w := w.setCell ⟨g, o, none⟩ v) r (o + 1) (k.set rfl)
set_option maxRecDepth 100000 in
theorem setCells_block (g : Nat) : ∀ (l : List Value) (o : Nat) (w : World) (k : Nat), k ≠ g → (w.setCells g o l).heap[k]? = w.heap[k]?
  | [], _, _, _, _ => rfl
  | v :: r, o, w, k, h => by
    rw [World.setCells, setCells_block g r (o + 1) _ k h]
    exact heap_setCell_other w ⟨g, o, none⟩ k v h
set_option maxRecDepth 100000 in
theorem Bx.putOther {w : World} {g k : Nat} {T : TypeId} {C : Array Value} (h : Bx w g T C) (hne : g ≠ k) (o : Nat) (l : List Value) : Bx (w.setCells k o l) g T C := (setCells_block k l o w g hne).trans h
set_option maxRecDepth 100000 in
theorem Below.setCellsG {B : Nat} {a : World} {g : Nat} (hg : B ≤ g) : ∀ (l : List Value) (o : Nat) (w : World), Below B a w → Below B a (w.setCells g o l)
  | [], _, _, h => h
  | v :: r, o, _w, h => Below.setCellsG hg r (o + 1) _ (h.setCell (p := ⟨g, o, none⟩) hg v)
set_option maxRecDepth 100000 in
theorem storePx {ops : Array Oper} {rest : List Oper} {op : Oper} {a : Act} {Q : Exit → Act → World → Prop} {W : World} {T U : TypeId} {m : Nat} (p y : Operand) (g o : Nat) (C D : Array Value) (ty : Ty U m) (hm : D.size = m) (h1 : D.all (·.oneCell') = true)
    (hg : Bx W g T C) (hC : o + m ≤ C.size) (hw : Region.wanted op (yielded ops a.tmps) = true) (ho : op.op = .store U p y) (hx : a.eval p = .pointer (some ⟨g, o, none⟩)) (hy : a.eval y = .agg D)
    (hK : wpList Try.prog ops Q rest (a.put op.dst undef) (W.setCells g o D.toList)) : wpList Try.prog ops Q (op :: rest) a W := by
  refine BigFrame.wpList_want hw fun _ hK' => wp_store_mid (P := Try.prog) U p y ho g o D hx hy (fun j hj => ?_) (by rw [hm]; exact ty.size) h1 (hK' _ _ hK)
  refine ⟨?_, hg.thaw _⟩
  rw [hg.cell (Array.getElem?_eq_getElem (show o + j < C.size by omega))]
  rfl
set_option maxRecDepth 100000 in
/-- the answer is a box alone, or a box and one, two more -/
theorem retX1 {fn : Func} {p : Tmp} {T : TypeId} (h : fn.results = #[.cell p T]) (tmps : Array Value) (W : World) (g : Nat) {n : Nat} (C : Array Value) (ty : Ty T n) (hn : C.size = n) (hp : tmps.getD p undef = .pointer (some ⟨g, 0, none⟩)) (hg : Bx W g T C) :
    (results fn tmps).run Try.prog W = .ok (.agg C) W := by
  have hp' : tmps[p]?.getD undef = .pointer (some ⟨g, 0, none⟩) := by simpa using hp
  simp [results, h, hp', asAddr, run_varX ty hn hg]
set_option maxRecDepth 100000 in
theorem retX2 {fn : Func} {p q : Tmp} {T : TypeId} (h : fn.results = #[.cell p T, .tmp q]) (tmps : Array Value) (W : World) (g : Nat) {n : Nat} (C : Array Value) (v : Value) (ty : Ty T n) (hn : C.size = n) (hp : tmps.getD p undef = .pointer (some ⟨g, 0, none⟩)) (hq : tmps.getD q undef = v) (hg : Bx W g T C) :
    (results fn tmps).run Try.prog W = .ok (.tuple #[.agg C, v]) W := by
  have hp' : tmps[p]?.getD undef = .pointer (some ⟨g, 0, none⟩) := by simpa using hp
  have hq' : tmps[q]?.getD undef = v := by simpa using hq
  simp [results, h, hp', hq', asAddr, run_varX ty hn hg]
set_option maxRecDepth 100000 in
theorem retX3 {fn : Func} {p q s : Tmp} {T : TypeId} (h : fn.results = #[.cell p T, .tmp q, .tmp s]) (tmps : Array Value) (W : World) (g : Nat) {n : Nat} (C : Array Value) (v u : Value) (ty : Ty T n) (hn : C.size = n) (hp : tmps.getD p undef = .pointer (some ⟨g, 0, none⟩)) (hq : tmps.getD q undef = v) (hs2 : tmps.getD s undef = u) (hg : Bx W g T C) :
    (results fn tmps).run Try.prog W = .ok (.tuple #[.agg C, v, u]) W := by
  have hp' : tmps[p]?.getD undef = .pointer (some ⟨g, 0, none⟩) := by simpa using hp
  have hq' : tmps[q]?.getD undef = v := by simpa using hq
  have hs' : tmps[s]?.getD undef = u := by simpa using hs2
  simp [results, h, hp', hq', hs', asAddr, run_varX ty hn hg]
set_option maxRecDepth 100000 in
/-- in a region that draws -/
theorem yieldsX {ops : Array Oper} {S : World → Prop} {o : Oper} {a : Act} {T : TypeId} (hw : Region.wanted o (yielded ops a.tmps) = true) (p : Operand) (ho : o.op = .load T p) (ad : Addr) (hx : a.eval p = .pointer (some ad)) (C : Array Value)
    (hS : ∀ w, S w → (Instr.loadAt T (.pointer (some ad))).run Try.prog w = .ok (.agg C) w) : YieldsIf Try.prog ops S o (.agg C) a :=
  .inl ⟨hw, fun w hw' => by
    unfold execOp
    simp only [ho, hx, Sem.run_bind, Sem.run_pure, Result.andThen_ok, hS w hw']⟩
/-! ### boxes that are made -/
set_option maxRecDepth 100000 in
theorem bx1 (W : World) (T : TypeId) (C : Array Value) : ∃ V, V = W.alloc (.cells C T) ∧ Below W.heap.size W V ∧ Bx V W.heap.size T C := ⟨_, rfl, (Below.refl W.heap.size W).alloc (Nat.le_refl _) _, heap_alloc_new W _⟩
set_option maxRecDepth 100000 in
theorem bx2 (W : World) (T U : TypeId) (C D : Array Value) : ∃ V, V = (W.alloc (.cells C T)).alloc (.cells D U) ∧ Below W.heap.size W V ∧ Bx V W.heap.size T C ∧ Bx V (W.heap.size + 1) U D ∧ V.heap.size = W.heap.size + 2 := by
  refine ⟨_, rfl, ((Below.refl W.heap.size W).alloc (Nat.le_refl _) _).alloc (by rw [World.size_alloc]; omega) _, ?_, ?_, by simp⟩
  · exact (heap_alloc_old (W.alloc (.cells C T)) _ (by rw [World.size_alloc]; omega)).trans (heap_alloc_new W _)
  · have h := heap_alloc_new (W.alloc (.cells C T)) (.cells D U)
    rwa [World.size_alloc] at h
set_option maxRecDepth 100000 in
theorem bx3 (W : World) (T U X : TypeId) (C D E : Array Value) : ∃ V, V = ((W.alloc (.cells C T)).alloc (.cells D U)).alloc (.cells E X) ∧ Below W.heap.size W V ∧ Bx V W.heap.size T C ∧ Bx V (W.heap.size + 1) U D ∧ Bx V (W.heap.size + 2) X E ∧ V.heap.size = W.heap.size + 3 := by
  obtain ⟨V, rfl, hb, h1, h2, hs⟩ := bx2 W T U C D
  refine ⟨_, rfl, hb.alloc (by omega) _, h1.alloc _, h2.alloc _, ?_, by simp⟩
  have h := heap_alloc_new ((W.alloc (.cells C T)).alloc (.cells D U)) (.cells E X)
  rwa [hs] at h
end Go.Proofs.Ytgnccfcdonoegaa
/- Rings of keys: plain, and in memory. -/

namespace Go.Proofs.Ytgnccfcdonoegaa
open Go.RowKit

/-- a generation of keys: its number, and the key -/
structure Gn where
  no : Int
  key : List UInt8
structure Rg where
  cur : Gn
  old : Gn
  pend : Gn
  left : Int
  top : Int
def gn0 : Gn := ⟨0, []⟩
def rg0 : Rg := ⟨gn0, gn0, gn0, 0, 0⟩
set_option maxRecDepth 100000 in
theorem Gn.ext' {a b : Gn} (h1 : a.no = b.no) (h2 : a.key = b.key) : a = b := by cases a; cases b; simp only at h1 h2; subst h1 h2; rfl
instance : DecidableEq Gn := fun a b => decidable_of_iff (a.no = b.no ∧ a.key = b.key) ⟨fun k => Gn.ext' k.1 k.2, fun k => by subst k; exact ⟨rfl, rfl⟩⟩
set_option maxRecDepth 100000 in
theorem Rg.ext' {a b : Rg} (h1 : a.cur = b.cur) (h2 : a.old = b.old) (h3 : a.pend = b.pend) (h4 : a.left = b.left) (h5 : a.top = b.top) : a = b := by cases a; cases b; simp only at h1 h2 h3 h4 h5; subst h1 h2 h3 h4 h5; rfl
instance : DecidableEq Rg := fun a b => decidable_of_iff (a.cur = b.cur ∧ a.old = b.old ∧ a.pend = b.pend ∧ a.left = b.left ∧ a.top = b.top) ⟨fun k => Rg.ext' k.1 k.2.1 k.2.2.1 k.2.2.2.1 k.2.2.2.2, fun k => by subst k; exact ⟨rfl, rfl, rfl, rfl, rfl⟩⟩
/-- is it a generation? -/
def RealG (g : Gn) : Prop := 1 ≤ g.no ∧ g.no ≤ 2147483647 ∧ g.key.length = 32
instance (g : Gn) : Decidable (RealG g) := by unfold RealG; infer_instance
/-- which rings are right -/
def RightR (r : Rg) : Prop := r = rg0 ∨ (RealG r.cur ∧ r.top ≤ 2147483647 ∧ r.cur.no ≤ r.top ∧ r.pend.no ≤ r.top ∧
  ((r.old = gn0 ∧ r.left = 0) ∨ (RealG r.old ∧ r.old.no < r.cur.no ∧ 1 ≤ r.left ∧ r.left ≤ 16)) ∧ (r.pend = gn0 ∨ (RealG r.pend ∧ r.cur.no < r.pend.no)))
instance (r : Rg) : Decidable (RightR r) := by unfold RightR; infer_instance
/-! what the calls answer -/
def newR (k : List UInt8) : Rg × Int := if k.length = 32 then (⟨⟨1, k⟩, gn0, gn0, 0, 1⟩, 0) else (rg0, 1)
def nextR (r : Rg) : Int × Int := if r = rg0 then (0, 9) else if 2147483647 ≤ r.top then (0, 10) else (r.top + 1, 0)
def offerR (r : Rg) (no : Int) (k : List UInt8) : Rg × Int :=
  if k.length ≠ 32 ∨ no < 1 ∨ 2147483647 < no then (r, 1) else if r = rg0 ∨ no ≤ r.cur.no ∨ no < r.pend.no then (r, 9) else ({ r with pend := ⟨no, k⟩, top := max r.top no }, 0)
def withdrawR (r : Rg) : Rg := { r with pend := gn0 }
def turnR (r : Rg) : Rg × Int := if r.pend.no = 0 then (r, 9) else (⟨r.pend, r.cur, gn0, 16, r.top⟩, 0)
def tickR (r : Rg) : Rg := if 1 < r.left then { r with left := r.left - 1 } else ⟨r.cur, gn0, r.pend, 0, r.top⟩
def findR (r : Rg) (no : Int) : List UInt8 × Bool :=
  if no < 1 then ([], false) else if r.cur.no = no then (r.cur.key, true) else if r.old.no = no then (r.old.key, true) else if r.pend.no = no then (r.pend.key, true) else ([], false)
def fewR (r : Rg) : Prop := r.cur.key.length ≤ 100 ∧ r.old.key.length ≤ 100 ∧ r.pend.key.length ≤ 100
instance (r : Rg) : Decidable (fewR r) := by unfold fewR; infer_instance
def B64r (x : Int) : Prop := -9223372036854775808 ≤ x ∧ x ≤ 9223372036854775807
def Rg64 (r : Rg) : Prop := B64r r.cur.no ∧ B64r r.old.no ∧ B64r r.pend.no ∧ B64r r.left ∧ B64r r.top
/-! ### in memory -/
/-- where a key lies: its address, and the slice's capacity -/
abbrev Wk := Option Addr × Nat
structure Wg where
  cur : Wk
  old : Wk
  pend : Wk
def wk0 : Wk := (none, 0)
def wg0 : Wg := ⟨wk0, wk0, wk0⟩
def genC (x : Wk) (g : Gn) : Array Value := #[.int .i64 g.no, .slice x.1 g.key.length x.2]
def ringC (x : Wg) (r : Rg) : Array Value := #[.int .i64 r.cur.no, .slice x.cur.1 r.cur.key.length x.cur.2, .int .i64 r.old.no, .slice x.old.1 r.old.key.length x.old.2, .int .i64 r.pend.no, .slice x.pend.1 r.pend.key.length x.pend.2, .int .i64 r.left, .int .i64 r.top]
set_option maxRecDepth 100000 in
theorem ringC_size (x : Wg) (r : Rg) : (ringC x r).size = 8 := rfl
set_option maxRecDepth 100000 in
theorem genC_size (x : Wk) (g : Gn) : (genC x g).size = 2 := rfl
set_option maxRecDepth 100000 in
theorem ringC_one (x : Wg) (r : Rg) : (ringC x r).all (·.oneCell') = true := by simp [ringC, Value.oneCell']
set_option maxRecDepth 100000 in
theorem genC_one (x : Wk) (g : Gn) : (genC x g).all (·.oneCell') = true := by simp [genC, Value.oneCell']
set_option maxRecDepth 100000 in
theorem tyRing : Ty 26 8 := ⟨⟨_, Try.underlying26, rfl⟩, by kernel_rfl⟩
set_option maxRecDepth 100000 in
theorem tyGen : Ty 24 2 := ⟨⟨_, Try.underlying24, rfl⟩, by kernel_rfl⟩
set_option maxRecDepth 100000 in
theorem part_cur (x : Wg) (r : Rg) : Part (ringC x r) 0 (genC x.cur r.cur) := fun j v h => by
  match j, h with
  | 0, h => exact h
  | 1, h => exact h
set_option maxRecDepth 100000 in
theorem part_old (x : Wg) (r : Rg) : Part (ringC x r) 2 (genC x.old r.old) := fun j v h => by
  match j, h with
  | 0, h => exact h
  | 1, h => exact h
set_option maxRecDepth 100000 in
theorem part_pend (x : Wg) (r : Rg) : Part (ringC x r) 4 (genC x.pend r.pend) := fun j v h => by
  match j, h with
  | 0, h => exact h
  | 1, h => exact h
/-- a key's bytes -/
def KeyR (w : World) (x : Wk) (l : List UInt8) : Prop := l.length ≤ x.2 ∧ x.2 ≤ 9223372036854775807 ∧ Rd w w.heap.size x.1 l
/-- a ring's keys -/
def RingR (w : World) (x : Wg) (r : Rg) : Prop := KeyR w x.cur r.cur.key ∧ KeyR w x.old r.old.key ∧ KeyR w x.pend r.pend.key
set_option maxRecDepth 100000 in
theorem KeyR.go {w w' : World} {x : Wk} {l : List UInt8} (k : KeyR w x l) (hb : Below w.heap.size w w') : KeyR w' x l := ⟨k.1, k.2.1, k.2.2.go hb⟩
set_option maxRecDepth 100000 in
theorem RingR.go {w w' : World} {x : Wg} {r : Rg} (k : RingR w x r) (hb : Below w.heap.size w w') : RingR w' x r := ⟨k.1.go hb, k.2.1.go hb, k.2.2.go hb⟩
set_option maxRecDepth 100000 in
theorem RingR.below {w w' : World} {x : Wg} {r : Rg} (k : RingR w x r) (hb : Below w.heap.size w w') (_ : w.heap.size ≤ w.heap.size) : RingR w' x r := k.go hb
set_option maxRecDepth 100000 in
theorem RingR.more {w : World} {x : Wg} {r : Rg} {n : Nat} (k : RingR w x r) (_ : n ≤ w.heap.size) : RingR w x r := k
set_option maxRecDepth 100000 in
theorem keyR0 (w : World) : KeyR w wk0 [] := ⟨Nat.le_refl _, (by decide : 0 ≤ 9223372036854775807), Rd.nil⟩
set_option maxRecDepth 100000 in
theorem ringR0 (w : World) : RingR w wg0 rg0 := ⟨keyR0 w, keyR0 w, keyR0 w⟩
abbrev BxR (w : World) (g : Nat) (x : Wg) (r : Rg) : Prop := Bx w g 26 (ringC x r)
/-! the cells -/
set_option maxRecDepth 100000 in
theorem ringC_cn (x : Wg) (r : Rg) : (ringC x r)[0]? = some (.int .i64 r.cur.no) := rfl
set_option maxRecDepth 100000 in
theorem ringC_ck (x : Wg) (r : Rg) : (ringC x r)[1]? = some (.slice x.cur.1 r.cur.key.length x.cur.2) := rfl
set_option maxRecDepth 100000 in
theorem ringC_on (x : Wg) (r : Rg) : (ringC x r)[2]? = some (.int .i64 r.old.no) := rfl
set_option maxRecDepth 100000 in
theorem ringC_ok (x : Wg) (r : Rg) : (ringC x r)[3]? = some (.slice x.old.1 r.old.key.length x.old.2) := rfl
set_option maxRecDepth 100000 in
theorem ringC_pn (x : Wg) (r : Rg) : (ringC x r)[4]? = some (.int .i64 r.pend.no) := rfl
set_option maxRecDepth 100000 in
theorem ringC_pk (x : Wg) (r : Rg) : (ringC x r)[5]? = some (.slice x.pend.1 r.pend.key.length x.pend.2) := rfl
set_option maxRecDepth 100000 in
theorem ringC_left (x : Wg) (r : Rg) : (ringC x r)[6]? = some (.int .i64 r.left) := rfl
set_option maxRecDepth 100000 in
theorem ringC_top (x : Wg) (r : Rg) : (ringC x r)[7]? = some (.int .i64 r.top) := rfl
/-! ### what stays right -/
set_option maxRecDepth 100000 in
theorem RealG.ne {g : Gn} (h : RealG g) : g ≠ gn0 := fun e => by rw [e] at h; exact absurd h.1 (by decide)
set_option maxRecDepth 100000 in
theorem RightR.cur {r : Rg} (h : RightR r) (h0 : r ≠ rg0) : RealG r.cur := by rcases h with h | h; exact absurd h h0; exact h.1
set_option maxRecDepth 100000 in
theorem new_right {k : List UInt8} : RightR (newR k).1 := by
  unfold newR
  split
  · rename_i h
    exact .inr ⟨⟨(by decide : (1 : Int) ≤ 1), (by decide : (1 : Int) ≤ 2147483647), h⟩, (by decide : (1 : Int) ≤ 2147483647), (by decide : (1 : Int) ≤ 1), (by decide : (0 : Int) ≤ 1), .inl ⟨rfl, rfl⟩, .inl rfl⟩
  · exact .inl rfl
set_option maxRecDepth 100000 in
theorem offer_right {r : Rg} (h : RightR r) (no : Int) (k : List UInt8) : RightR (offerR r no k).1 := by
  unfold offerR
  split
  · exact h
  · rename_i h1
    split
    · exact h
    · rename_i h2
      simp only [not_or, Int.not_lt, Int.not_le, Decidable.not_not] at h1 h2
      rcases h with h | ⟨a1, a2, a3, a4, a5, a6⟩
      · exact absurd h h2.1
      · exact .inr ⟨a1, by show max r.top no ≤ _; omega, by show r.cur.no ≤ max r.top no; omega, by show no ≤ max r.top no; omega, a5, .inr ⟨⟨h1.2.1, h1.2.2, h1.1⟩, h2.2.1⟩⟩
set_option maxRecDepth 100000 in
theorem withdraw_right {r : Rg} (h : RightR r) : RightR (withdrawR r) := by
  rcases h with rfl | ⟨a1, a2, a3, a4, a5, a6⟩
  · exact .inl rfl
  · exact .inr ⟨a1, a2, a3, by show (0 : Int) ≤ r.top; have := a1.1; omega, a5, .inl rfl⟩
set_option maxRecDepth 100000 in
theorem turn_right {r : Rg} (h : RightR r) : RightR (turnR r).1 := by
  unfold turnR
  split
  · exact h
  · rename_i h0
    rcases h with rfl | ⟨a1, a2, a3, a4, a5, a6⟩
    · exact absurd rfl h0
    · rcases a6 with a6 | a6
      · rw [a6] at h0; exact absurd rfl h0
      · exact .inr ⟨a6.1, a2, a4, by show (0 : Int) ≤ r.top; have := a1.1; omega, .inr ⟨a1, a6.2, (by decide : (1 : Int) ≤ 16), (by decide : (16 : Int) ≤ 16)⟩, .inl rfl⟩
set_option maxRecDepth 100000 in
theorem tick_right {r : Rg} (h : RightR r) : RightR (tickR r) := by
  unfold tickR
  split
  · rename_i h0
    rcases h with rfl | ⟨a1, a2, a3, a4, a5, a6⟩
    · exact absurd h0 (by decide)
    · rcases a5 with a5 | a5
      · omega
      · exact .inr ⟨a1, a2, a3, a4, .inr ⟨a5.1, a5.2.1, by show 1 ≤ r.left - 1; omega, by show r.left - 1 ≤ 16; omega⟩, a6⟩
  · rcases h with rfl | ⟨a1, a2, a3, a4, a5, a6⟩
    · exact .inl rfl
    · exact .inr ⟨a1, a2, a3, a4, .inl ⟨rfl, rfl⟩, a6⟩
end Go.Proofs.Ytgnccfcdonoegaa
/- dig.Hex -/

namespace Go.Proofs.Ytgnccfcdonoegaa
open Go.RowKit

def sgn (n : Nat) : UInt8 := if n < 10 then UInt8.ofNat (48 + n) else UInt8.ofNat (87 + n)
def hx (l : List UInt8) : List UInt8 := l.flatMap fun b => [sgn (b.toNat / 16), sgn (b.toNat % 16)]
set_option maxRecDepth 100000 in
theorem hx_length (l : List UInt8) : (hx l).length = 2 * l.length := by
  induction l with
  | nil => rfl
  | cons a l ih => simp only [hx, List.flatMap_cons, List.length_append, List.length_cons, List.length_nil] at ih ⊢; omega
set_option maxRecDepth 100000 in
theorem take_snoc (l : List UInt8) (k : Nat) (h : k < l.length) : l.take (k + 1) = l.take k ++ [l[k]] := by
  rw [List.take_succ_eq_append_getElem h]
set_option maxRecDepth 100000 in
theorem hx_snoc (l : List UInt8) (c : UInt8) : hx (l ++ [c]) = hx l ++ [sgn (c.toNat / 16), sgn (c.toNat % 16)] := by
  simp [hx]

set_option maxRecDepth 100000 in
theorem idx_signs (q : Int) (j : Nat) (hq : q = j) (h : j < 16) (W : World) : (Instr.index 9 (.string ⟨#[48, 49, 50, 51, 52, 53, 54, 55, 56, 57, 97, 98, 99, 100, 101, 102]⟩) (.int .u8 q)).run Try.prog W = .ok (.int .u8 ((sgn j).toNat : Int)) W := by
  subst hq
  match j, h with
  | 0, _ => rfl | 1, _ => rfl | 2, _ => rfl | 3, _ => rfl | 4, _ => rfl | 5, _ => rfl | 6, _ => rfl | 7, _ => rfl
  | 8, _ => rfl | 9, _ => rfl | 10, _ => rfl | 11, _ => rfl | 12, _ => rfl | 13, _ => rfl | 14, _ => rfl | 15, _ => rfl
  | j + 16, h => exact absurd h (by omega)
set_option maxRecDepth 100000 in
theorem idx_hi (b : UInt8) : ∀ W, (Instr.index 9 (.string ⟨#[48, 49, 50, 51, 52, 53, 54, 55, 56, 57, 97, 98, 99, 100, 101, 102]⟩) (.int .u8 ((b.toNat : Int) / 16))).run Try.prog W = .ok (.int .u8 ((sgn (b.toNat / 16)).toNat : Int)) W :=
  fun W => idx_signs _ (b.toNat / 16) (by omega) (by have := b.toNat_lt; omega) W
set_option maxRecDepth 100000 in
theorem idx_lo (b : UInt8) : ∀ W, (Instr.index 9 (.string ⟨#[48, 49, 50, 51, 52, 53, 54, 55, 56, 57, 97, 98, 99, 100, 101, 102]⟩) (.int .u8 ((b.toNat : Int) % 16))).run Try.prog W = .ok (.int .u8 ((sgn (b.toNat % 16)).toNat : Int)) W :=
  fun W => idx_signs _ (b.toNat % 16) (by omega) (by omega) W

end Go.Proofs.Ytgnccfcdonoegaa
/- Small callees: figure, half, sign, worth, power. -/

namespace Go.Proofs.Ytgnccfcdonoegaa
open Go.RowKit

set_option maxRecDepth 100000 in
theorem pow_pos' (n : Int) (j : Nat) (h1 : 1 ≤ n) : 1 ≤ n ^ j := by
  induction j with
  | zero => simp
  | succ j ih =>
    rw [Int.pow_succ]
    have := Int.mul_le_mul ih h1 (by omega) (by omega)
    omega

set_option maxRecDepth 100000 in
theorem pow_le_pow' (n : Int) (j k : Nat) (h1 : 1 ≤ n) (hjk : j ≤ k) : n ^ j ≤ n ^ k := by
  obtain ⟨d, rfl⟩ := Nat.exists_eq_add_of_le hjk
  rw [Int.pow_add]
  have a := pow_pos' n j h1
  have b := pow_pos' n d h1
  have := Int.mul_le_mul (Int.le_refl (n ^ j)) b (by omega) (by omega)
  omega

set_option maxRecDepth 100000 in
theorem pow_step (n p : Int) (j k : Nat) (h1 : 1 ≤ n) (hlt : j < k) (hp : Hid (p = n ^ j)) (h2 : Hid ((n ^ k : Int) ≤ 9223372036854775807)) : 0 ≤ p * n ∧ p * n ≤ 9223372036854775807 := by
  have e : p * n = n ^ (j + 1) := by rw [hp.out, Int.pow_succ]
  have a := pow_pos' n (j + 1) h1
  have b := pow_le_pow' n (j + 1) k h1 (by omega)
  have c := h2.out
  rw [e]
  omega

end Go.Proofs.Ytgnccfcdonoegaa
